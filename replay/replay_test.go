package replay

import (
	"bytes"
	"math"
	"slices"
	"testing"

	"hindsight/api"
	"hindsight/image"
	"hindsight/samples"
	"hindsight/slot"
	"hindsight/vm"
)

var input = []int64{3, -4}

func build(t *testing.T, s string) image.Image {
	t.Helper()
	m, err, at := image.Build(s)
	if err != api.OK {
		t.Fatalf("%q: %d at %d", s, err, at)
	}
	return m
}

func begin(t *testing.T, m image.Image, o Opt) *Replay {
	t.Helper()
	r, err := New(m, input, o)
	if err != api.OK {
		t.Fatal(err)
	}
	return r
}

// fresh returns a new machine that is moved to a count.
func fresh(t *testing.T, m image.Image, o Opt, count int64) *vm.Machine {
	t.Helper()
	v, err := vm.New(m, input, o.Room, o.Stack)
	if err != api.OK {
		t.Fatal(err)
	}
	for range count + 1 {
		if _, err := v.ToStop(o.Fuel); err != api.OK {
			t.Fatal(err)
		}
	}
	return v
}

func agree(t *testing.T, m image.Image, o Opt, r *Replay, count int64) {
	t.Helper()
	v, w := r.Machine(), fresh(t, m, o, count)
	if r.Count() != count || v.PC() != w.PC() || v.Stops() != w.Stops() || v.Over() != w.Over() || v.Error() != w.Error() || v.Read() != w.Read() ||
		!slices.Equal(v.Out(), w.Out()) || !slices.Equal(v.Calls(), w.Calls()) || v.Fault() != w.Fault() {
		t.Fatalf("P23.1: %s: the machine at count %d", m.Source, count)
	}
	for kind := range 4 {
		for n := range 5 {
			a, err := v.Word(slot.Place{Kind: kind, N: n})
			b, want := w.Word(slot.Place{Kind: kind, N: n})
			if err != want || a != b {
				t.Fatalf("P23.1: %s: a word at count %d", m.Source, count)
			}
		}
	}
	if !bytes.Equal(v.Put(), w.Put()) {
		t.Fatalf("T3: %s: the state at count %d", m.Source, count)
	}
}

func TestMoves(t *testing.T) {
	l := samples.Texts()
	for seed := range uint64(40) {
		l = append(l, samples.Random(seed))
	}
	for i, s := range l {
		m, err, _ := image.Build(s)
		if err != api.OK {
			continue
		}
		o := Opt{2000, 2000, 100000, int64(1 + i%4), 2 + i%5}
		r := begin(t, m, o)
		all := begin(t, m, o)
		if err := all.To(1 << 40); err != api.EOVER || all.Count() != 0 {
			t.Fatalf("P23.1: %s: To beyond the end is %d", s, err)
		}
		end, ok := all.End()
		if !ok {
			t.Fatalf("P23.1: %s: the end is not known", s)
		}
		if _, ok := r.End(); ok != (end == 0) {
			t.Fatalf("P23.1: %s: the end is known too early", s)
		}
		at := int64(i)
		for range 12 {
			at = (at*7 + 3) % (end + 1)
			before, kept := r.Ran(), r.Kept()
			if err := r.To(at); err != api.OK {
				t.Fatalf("P23.1: %s: To(%d): %d", s, at, err)
			}
			agree(t, m, o, r, at)
			from := int64(0)
			for _, k := range kept {
				if k <= at {
					from = k
				}
			}
			if cost := fresh(t, m, o, at).Ran() - fresh(t, m, o, from).Ran(); r.Ran()-before > cost {
				t.Fatalf("T4: %s: To(%d) executes %d instructions, want at most %d", s, at, r.Ran()-before, cost)
			}
			if k := r.Kept(); len(k) > o.Most || k[0] != 0 || !slices.IsSorted(k) || slices.ContainsFunc(k, func(n int64) bool { return n%o.Every != 0 }) {
				t.Fatalf("P23.1: %s: kept are %v", s, k)
			}
		}
		if err := r.To(end); err != api.OK || r.Machine().Over() == api.Going {
			t.Fatalf("P23.1: %s: To the end is %d", s, err)
		}
		if got, ok := r.End(); got != end || !ok {
			t.Fatalf("P23.1: %s: End is %d, %v", s, got, ok)
		}
	}
}

func TestErrors(t *testing.T) {
	m := build(t, "let rec f x = if x = 0 then 0 else 1 + f (x - 1) in print (f 3) ; print (f 200) ; 5")
	o := Opt{200, 100, 1000, 2, 4}
	r := begin(t, m, o)
	last := int64(0)
	for r.To(last+1) == api.OK {
		last++
	}
	if err := r.To(last + 1); err != api.ESTACK || r.Count() != last {
		t.Errorf("P23.1: To beyond a fault is %d", err)
	}
	for _, at := range []int64{0, last, 3, last - 1} {
		if err := r.To(at); err != api.OK {
			t.Fatalf("P23.1: To(%d) is %d", at, err)
		}
		kept := r.Kept()
		for count, want := range map[int64]api.Errno{-1: api.EARG, math.MinInt64: api.EARG, last + 1: api.ESTACK, math.MaxInt64: api.ESTACK} {
			if err := r.To(count); err != want || r.Count() != at {
				t.Errorf("P23.1: To(%d) from %d is %d", count, at, err)
			}
		}
		if !slices.Equal(kept, r.Kept()) {
			t.Errorf("R3: a To that fails changes what is kept: %v, %v", kept, r.Kept())
		}
		agree(t, m, o, r, at)
		if _, ok := r.End(); ok {
			t.Error("P23.1: the end has not been reached")
		}
	}
	loop := build(t, "print 1 ; (let x = 1 + 2 + 3 + 4 + 5 + 6 + 7 + 8 + 9 in x)")
	r = begin(t, loop, Opt{64, 64, 10, 1, 2})
	if err := r.To(2); err != api.EFUEL || r.Count() != 0 || r.To(1) != api.OK || r.To(2) != api.EFUEL || r.Count() != 1 {
		t.Errorf("P23.1: To with too little fuel is %d", err)
	}
	heap := build(t, "type l = N | C of int, l in let rec f x = C (x, f x) in let rec g x = C (x, g (x + 1)) in let rec h l = h (C (1, l)) in h N")
	r = begin(t, heap, Opt{64, 4096, 1000, 1, 2})
	err := api.OK
	for err == api.OK {
		err = r.To(r.Count() + 1)
	}
	if err != api.EHEAP {
		t.Errorf("P23.1: a full heap is %d", err)
	}
}

func TestNew(t *testing.T) {
	m := build(t, "print 1")
	good := Opt{16, 16, 1, 1, 2}
	for i, c := range []struct {
		f    func(o *Opt)
		want api.Errno
	}{
		{func(o *Opt) { o.Fuel = 100 }, api.OK}, {func(o *Opt) { o.Fuel = api.MaxFuel }, api.OK}, {func(o *Opt) { o.Room = 15 }, api.EARG},
		{func(o *Opt) { o.Stack = 15 }, api.EARG}, {func(o *Opt) { o.Fuel = 0 }, api.EARG}, {func(o *Opt) { o.Fuel = api.MaxFuel + 1 }, api.EARG},
		{func(o *Opt) { o.Every = 0 }, api.EARG}, {func(o *Opt) { o.Most = 1 }, api.EARG}, {func(o *Opt) { o.Most = 65 }, api.EARG},
	} {
		o := good
		c.f(&o)
		r, err := New(m, nil, o)
		if err != c.want || (r == nil) != (err != api.OK) {
			t.Errorf("P23.1: number %d: New returns %d", i, err)
		}
	}
	if _, err := New(m, make([]int64, 201), Opt{16, 16, 10, 1, 2}); err != api.EARG {
		t.Errorf("P23.1: New with too much input returns %d", err)
	}
	if _, err := New(build(t, "1 + 2 + 3 + 4 + read"), nil, Opt{16, 16, 4, 1, 2}); err != api.EFUEL {
		t.Errorf("P23.1: New with too little fuel returns %d", err)
	}
	if _, err := New(build(t, "ref (ref (ref (ref (ref (ref (ref (ref (ref 1))))))))"), nil, Opt{16, 64, 100, 1, 2}); err != api.EHEAP {
		t.Errorf("P23.1: New with too little heap returns %d", err)
	}
	r := begin(t, build(t, "1"), Opt{16, 16, 9, 1, 2})
	if n, ok := r.End(); n != 0 || !ok || r.Count() != 0 || r.Machine().Over() != api.Value || r.To(1) != api.EOVER || r.To(0) != api.OK {
		t.Errorf("P23.1: a program without stops: %d, %v", n, ok)
	}
}

// TestLent moves a machine that Machine has returned: the replay stays where it is.
func TestLent(t *testing.T) {
	m := build(t, "print 1 ; print 2 ; print 3 ; print 4")
	o := Opt{64, 64, 100, 1, 3}
	r := begin(t, m, o)
	r.To(2)
	v := r.Machine()
	v.ToStop(100)
	agree(t, m, o, r, 2)
	r.To(3)
	if v.Stops() != 3 {
		t.Error("R5: a machine moves with the replay that it came from")
	}
	agree(t, m, o, r, 3)
}

func TestNotKept(t *testing.T) {
	m := build(t, "print read ; print read")
	in := []int64{1, 2}
	r, _ := New(m, in, Opt{64, 64, 100, 1, 3})
	in[1] = 9
	for i := range m.Program.Code {
		m.Program.Code[i] = 0
	}
	if err := r.To(4); err != api.OK || !slices.Equal(r.Machine().Out(), []int64{1, 2}) {
		t.Errorf("R4: %d, the output is %v", err, r.Machine().Out())
	}
}

package vm

import (
	"bytes"
	"slices"
	"strings"
	"testing"

	"hindsight/api"
	"hindsight/gen"
	"hindsight/image"
	"hindsight/samples"
	"hindsight/slot"
	"hindsight/source"
	"hindsight/word"
)

var input = []int64{3, -4, 4611686018427387903}

func build(t *testing.T, s string) image.Image {
	t.Helper()
	m, err, at := image.Build(s)
	if err != api.OK {
		t.Fatalf("%q: %d at %d", s, err, at)
	}
	return m
}

func begin(t *testing.T, m image.Image, room, stack int) *Machine {
	t.Helper()
	v, err := New(m, input, room, stack)
	if err != api.OK {
		t.Fatal(err)
	}
	return v
}

func texts() []string {
	l := samples.Texts()
	for seed := range uint64(150) {
		if s := samples.Random(seed); len(s) < api.MaxSource {
			l = append(l, s)
		}
	}
	return l
}

// images returns the images of the texts that are small enough.
func images() []image.Image {
	var l []image.Image
	for _, s := range texts() {
		if m, err, _ := image.Build(s); err == api.OK {
			l = append(l, m)
		}
	}
	return l
}

// toStop lets the source machine step up to a stop that it does not stand at yet, or to the end.
func toStop(x *source.Machine) (source.Stop, bool) {
	for x.Step() {
		if s, ok := x.Stop(); ok {
			return s, true
		}
	}
	return source.Stop{}, false
}

// agree compares a machine at a stop or at the end with the source machine.
func agree(t *testing.T, m image.Image, v *Machine, x *source.Machine, s source.Stop) {
	t.Helper()
	if v.Over() != x.Over() || v.Error() != x.Error() || v.Read() != x.Read() || !slices.Equal(v.Out(), x.Out()) {
		t.Fatalf("P20.2: %s: Over %d, Error %d, Out %v; want %d, %d, %v", m.Source, v.Over(), v.Error(), v.Out(), x.Over(), x.Error(), x.Out())
	}
	if v.Over() != api.Going {
		return
	}
	at := -1
	for _, k := range m.Program.Marks {
		if k.PC == v.PC() {
			at = k.At
		}
	}
	var calls []int
	for _, f := range slices.Backward(s.Calls) {
		calls = append(calls, f.Call)
	}
	if at != s.At || v.Stops() != s.Count || !slices.Equal(v.Calls(), calls) {
		t.Fatalf("P20.2: %s: node %d, stop %d, calls %v; want %d, %d, %v", m.Source, at, v.Stops(), v.Calls(), s.At, s.Count, calls)
	}
}

// follow runs both machines side by side. It returns the steps of the source machine up to the stop
// after which a fault occurred, and the fault.
func follow(t *testing.T, m image.Image, v *Machine) (int64, api.Errno) {
	t.Helper()
	x, _ := source.New(m.Tree, input)
	s, ok := x.Stop()
	if !ok {
		s, ok = toStop(x)
	}
	ran := int64(0)
	for {
		n, err := v.ToStop(api.MaxFuel)
		if err != api.OK {
			if n != 0 || v.Fault() != err || v.Over() != api.Going || v.Step() != err {
				t.Fatalf("P20.1: %s: a fault: %d, %d", m.Source, n, err)
			}
			return x.Steps(), err
		}
		ran += n
		if v.Ran() != ran || n < 1 {
			t.Fatalf("P20.1: %s: Ran is %d, want %d", m.Source, v.Ran(), ran)
		}
		agree(t, m, v, x, s)
		if !ok {
			break
		}
		s, ok = toStop(x)
	}
	if v.Step() != api.EOVER || v.Ran() != ran {
		t.Fatalf("P20.1: %s goes on", m.Source)
	}
	if n, err := v.ToStop(9); n != 0 || err != api.EOVER {
		t.Fatalf("P20.1: %s goes on: %d, %d", m.Source, n, err)
	}
	if _, ok := v.Result(); ok != (v.Over() == api.Value) {
		t.Fatalf("P20.2: %s: Result is %v", m.Source, ok)
	}
	return x.Steps(), api.OK
}

func TestExecution(t *testing.T) {
	for _, m := range images() {
		if _, err := follow(t, m, begin(t, m, api.MaxHeap, api.MaxStack)); err != api.OK {
			t.Errorf("P20.2: %s: %d", m.Source, err)
		}
	}
}

// TestFaults runs the programs in little room: a fault may occur only as early as the chapter permits.
func TestFaults(t *testing.T) {
	faults := map[api.Errno]int{}
	for _, m := range images() {
		caught, slots := 0, 0
		for _, p := range m.Program.Pieces {
			caught, slots = max(caught, p.Caught), max(slots, p.Slots)
		}
		for _, k := range []int{16, 20, 40, 64, 80, 120, 300} {
			v := begin(t, m, k, api.MaxStack)
			steps, err := follow(t, m, v)
			if err != api.OK && (err != api.EHEAP || int64(k) >= 64+steps*int64(4+caught)) {
				t.Errorf("P20.2: %s: %d after %d steps in a heap of %d", m.Source, err, steps, k)
			}
			faults[err]++
			v = begin(t, m, api.MaxHeap, k)
			steps, err = follow(t, m, v)
			if err != api.OK && (err != api.ESTACK || int64(k) >= 64+steps*int64(4+slots)) {
				t.Errorf("P20.2: %s: %d after %d steps in a stack of %d", m.Source, err, steps, k)
			}
			faults[err]++
		}
	}
	if faults[api.OK] < 100 || faults[api.EHEAP] < 10 || faults[api.ESTACK] < 10 {
		t.Errorf("the faults are too few: %v", faults)
	}
}

// TestRootSlots has a root of more slots than the stack has words: it must not fault before a step.
func TestRootSlots(t *testing.T) {
	m := build(t, strings.Repeat("let v = (let w = 1 in w) in ", 40)+"1")
	v := begin(t, m, 64, 64)
	if n, err := v.ToStop(100); err != api.OK || v.Stops() != 0 {
		t.Errorf("P20.2: the first stop: %d, %d", n, err)
	}
	if w, err := v.Word(slot.Place{Kind: 1, N: 0}); w != word.Num(0) || err != api.OK {
		t.Errorf("P20.2: a slot of the root is %d, %d", w, err)
	}
	if steps, err := follow(t, m, begin(t, m, 64, 64)); err != api.ESTACK || steps == 0 {
		t.Errorf("P20.2: %d after %d steps", err, steps)
	}
}

func TestNew(t *testing.T) {
	m := build(t, "1")
	for i, c := range []struct {
		m           image.Image
		input       []int64
		room, stack int
		want        api.Errno
	}{
		{m, nil, 16, 16, api.OK}, {m, nil, 15, 16, api.EARG}, {m, nil, 16, 15, api.EARG}, {m, nil, api.MaxHeap + 1, 16, api.EARG},
		{m, nil, 16, api.MaxStack + 1, api.EARG}, {m, make([]int64, 201), 16, 16, api.EARG}, {m, []int64{1 << 62}, 16, 16, api.EARG},
		{image.Image{}, nil, 16, 16, api.EARG},
	} {
		v, err := New(c.m, c.input, c.room, c.stack)
		if err != c.want || (v == nil) != (err != api.OK) {
			t.Errorf("P20.1: number %d: New returns %d", i, err)
		}
	}
	v := begin(t, m, 16, 16)
	if v.PC() != 0 || v.Ran() != 0 || v.Stops() != 0 || v.Over() != api.Going || v.Fault() != api.OK || len(v.Calls()) != 0 || v.Heap().Room() != 16 {
		t.Error("P20.1: the state before the first instruction")
	}
	if _, err := v.Word(slot.Place{Kind: 1}); err != api.EARG {
		t.Error("P20.2: Word without a frame")
	}
}

func TestFuel(t *testing.T) {
	m := build(t, "let rec f x = f x in f 1")
	v := begin(t, m, 64, 64)
	for _, fuel := range []int64{0, -1} {
		if n, err := v.ToStop(fuel); n != 0 || err != api.EFUEL || v.Ran() != 0 {
			t.Errorf("P20.1: ToStop(%d) is %d, %d", fuel, n, err)
		}
	}
	long := build(t, "1 + 2 + 3 + 4 + 5 + 6")
	v = begin(t, long, 64, 64)
	if n, err := v.ToStop(5); n != 0 || err != api.EFUEL || v.Ran() != 5 {
		t.Errorf("P20.1: ToStop is %d, %d after %d instructions", n, err, v.Ran())
	}
	all := begin(t, long, 64, 64)
	many, _ := all.ToStop(1 << 40)
	v = begin(t, long, 64, 64)
	if n, err := v.ToStop(many); n != many || err != api.OK {
		t.Errorf("P20.1: ToStop with just enough fuel is %d, %d", n, err)
	}
	v = begin(t, long, 64, 64)
	if n, err := v.ToStop(many - 1); n != 0 || err != api.EFUEL || v.Step() != api.OK || v.Over() != api.Value || v.Step() != api.EOVER {
		t.Errorf("P20.1: ToStop with too little fuel is %d, %d", n, err)
	}
}

func TestValues(t *testing.T) {
	for s, want := range map[string]word.Word{
		"5": word.Num(5), "0 - 5": word.Num(-5), "()": word.Num(0), "false": word.Num(0), "true": word.Num(1), "1 < 2": word.Num(1),
		"type t = A of int | B | C in C": word.Num(2), "print 1": word.Num(0),
	} {
		v := begin(t, build(t, s), 64, 64)
		v.ToStop(1000)
		v.ToStop(1000)
		if w, ok := v.Result(); w != want || !ok {
			t.Errorf("P20.2: %s has the word %d, %v", s, w, ok)
		}
	}
	for s, want := range map[string][3]int{
		"type t = A | B of int, bool in B (7, true)": {1, 1, 2}, "ref 5": {3, 0, 1}, "fun x -> x": {2, -1, -1}, "type t = A of int in A (1)": {1, 0, 1},
	} {
		v := begin(t, build(t, s), 64, 64)
		v.ToStop(1000)
		w, _ := v.Result()
		kind, tag, size, err := v.Heap().Head(w)
		if err != api.OK || kind != want[0] || want[1] >= 0 && (tag != want[1] || size != want[2]) {
			t.Errorf("P20.2: %s has the object %d, %d, %d", s, kind, tag, size)
		}
	}
}

func TestWord(t *testing.T) {
	m := build(t, "let a = 7 in let rec f x = let b = x + a in (fun y -> (print (y + b + x) ; 1)) (f b) in f 1")
	v := begin(t, m, 200, 200)
	for v.Stops() < 3 {
		if _, err := v.ToStop(1000); err != api.OK {
			t.Fatal(err)
		}
	}
	// Here b is about to be bound to 8 in the first call: the machine stands at the application.
	v.ToStop(1000)
	if len(v.Calls()) != 1 {
		t.Fatalf("the calls are %v", v.Calls())
	}
	for _, c := range []struct {
		p    slot.Place
		n    int64
		want api.Errno
	}{
		{slot.Place{Kind: 1, N: 0}, 1, api.OK}, {slot.Place{Kind: 1, N: 1}, 8, api.OK}, {slot.Place{Kind: 2, N: 0}, 7, api.OK},
		{slot.Place{Kind: 1, N: 2}, 0, api.EARG}, {slot.Place{Kind: 1, N: -1}, 0, api.EARG}, {slot.Place{Kind: 2, N: 1}, 0, api.EARG},
		{slot.Place{Kind: 2, N: -1}, 0, api.EARG}, {slot.Place{Kind: 3, N: 1}, 0, api.EARG}, {slot.Place{}, 0, api.EARG}, {slot.Place{Kind: 4}, 0, api.EARG},
	} {
		w, err := v.Word(c.p)
		n, _ := word.Int(w)
		if err != c.want || n != c.n || err != api.OK && w != 0 {
			t.Errorf("P20.2: Word(%v) is %d, %d", c.p, w, err)
		}
	}
	w, err := v.Word(slot.Place{Kind: 3})
	if kind, _, _, _ := v.Heap().Head(w); err != api.OK || kind != 2 {
		t.Errorf("P20.2: the function itself is %d, %d", w, err)
	}
	plain := begin(t, build(t, "(fun x -> print x) 1"), 64, 64)
	plain.ToStop(100)
	plain.ToStop(100)
	if _, err := plain.Word(slot.Place{Kind: 3}); err != api.EARG || len(plain.Calls()) != 1 {
		t.Errorf("P20.2: a function without a name: %d", err)
	}
}

func TestPutAndLoad(t *testing.T) {
	for i, m := range images() {
		v := begin(t, m, 150, 300)
		var states [][]byte
		for n := 0; n < 400 && v.Over() == api.Going && v.Fault() == api.OK; n++ {
			states = append(states, v.Put())
			v.Step()
		}
		states = append(states, v.Put())
		end := v.Put()
		for j, b := range states {
			if (i+j)%7 != 0 && j+1 < len(states) {
				continue
			}
			w, err := Load(m, input, b)
			if err != api.OK || !bytes.Equal(w.Put(), b) {
				t.Fatalf("P20.3: %s: Load of state %d: %d", m.Source, j, err)
			}
			for range len(states) - 1 - j {
				w.Step()
			}
			if !bytes.Equal(w.Put(), end) || w.Fault() != v.Fault() || w.PC() != v.PC() {
				t.Fatalf("P20.3: %s goes on differently from state %d", m.Source, j)
			}
		}
	}
}

func TestBadBytes(t *testing.T) {
	m := build(t, "let rec f x = try (if x = 0 then raise 5 else f (x - 1)) with e -> (print e ; ! (ref e) + 1) end in f read")
	v := begin(t, m, 100, 200)
	for range 6 {
		v.ToStop(100)
	}
	b := v.Put()
	for cut := range b {
		if w, err := Load(m, input, b[:cut]); err != api.EFORM || w != nil {
			t.Fatalf("P20.3: Load of %d bytes: %d", cut, err)
		}
	}
	if _, err := Load(m, input, append(slices.Clone(b), 0)); err != api.EFORM {
		t.Errorf("P20.3: Load of too many bytes: %d", err)
	}
	if _, err := Load(build(t, m.Source+" "), input, b); err != api.EFORM {
		t.Errorf("P20.3: Load for another image: %d", err)
	}
	for _, l := range [][]int64{nil, input[:2], {3, -4, 5}} {
		if _, err := Load(m, l, b); err != api.EFORM {
			t.Errorf("P20.3: Load for another input: %d", err)
		}
	}
	if _, err := Load(m, input, b); err != api.OK {
		t.Errorf("P20.3: Load: %d", err)
	}
	for i := range b { // no bytes make the machine panic
		for _, x := range []byte{1, 128, 255} {
			c := slices.Clone(b)
			c[i] ^= x
			if w, err := Load(m, input, c); err == api.OK {
				for range 30 {
					w.ToStop(200)
				}
				w.Word(slot.Place{Kind: 2})
				w.Put()
			}
		}
	}
}

func TestForeignHands(t *testing.T) {
	v := begin(t, build(t, "let rec f x = let r = ref x in (r := ! r + 1 ; f (! r)) in f 1"), 100, 4000)
	for range 20 {
		v.ToStop(100)
		v.Heap().Collect()
	}
	if v.Fault() == api.OK {
		v.ToStop(100)
	}
}

func TestNotKept(t *testing.T) {
	m := build(t, "print read ; print read")
	in := []int64{1, 2}
	v, _ := New(m, in, 64, 64)
	in[1] = 9
	m.Program.Code[0], m.Program.Pieces[0] = 63, gen.Piece{}
	for range 5 {
		v.ToStop(100)
	}
	if !slices.Equal(v.Out(), []int64{1, 2}) {
		t.Errorf("R4: the output is %v", v.Out())
	}
}

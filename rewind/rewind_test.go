package rewind

import (
	"slices"
	"testing"

	"hindsight/api"
	"hindsight/image"
)

func begin(t *testing.T, s string) *Replay {
	t.Helper()
	m, err, _ := image.Build(s)
	if err != api.OK {
		t.Fatal(err)
	}
	r, err := New(m, nil, Opt{Room: 64, Stack: 64, Fuel: 100, Every: 1, Most: 5})
	if err != api.OK {
		t.Fatal(err)
	}
	return r
}

func TestTry(t *testing.T) {
	r := begin(t, "print 1 ; print 2 ; print 3 ; print 4")
	r.To(1)
	err := r.Try(func() api.Errno {
		r.To(3)
		return r.To(9)
	})
	if err != api.EOVER || r.Count() != 1 || !slices.Equal(r.Kept(), []int64{0, 1}) || r.Live().Stops() != 1 {
		t.Errorf("Try returns %d at %d, kept are %v", err, r.Count(), r.Kept())
	}
	if err := r.Try(func() api.Errno { return r.To(2) }); err != api.OK || r.Count() != 2 {
		t.Errorf("Try returns %d at %d", err, r.Count())
	}
}

func TestToward(t *testing.T) {
	r := begin(t, "print 1 ; print 2 ; print 3")
	for _, c := range []struct{ to, at int64 }{{1, 1}, {50, 3}, {50, 3}, {2, 2}, {1 << 40, 3}} {
		if err := r.Toward(c.to); err != api.OK || r.Count() != c.at || (r.Live().Over() != api.Going) != (c.at == 3) {
			t.Errorf("Toward %d is %d, at %d", c.to, err, r.Count())
		}
	}
	deep := begin(t, "let rec f x = f x + 1 in f 1")
	if err := deep.Toward(100); err != api.ESTACK || deep.Count() != 0 || deep.Live().Stops() != 0 {
		t.Errorf("Toward beyond a fault is %d, at %d", err, deep.Count())
	}
}

func TestCopy(t *testing.T) {
	r := begin(t, "print 1 ; print 2 ; print 3")
	r.To(1)
	v := r.Copy()
	v.ToStop(100)
	if r.Live().Stops() != 1 || v.Stops() != 2 {
		t.Error("a copy is not a machine of its own")
	}
}

package tape

import (
	"slices"
	"testing"

	"hindsight/api"
)

func TestNew(t *testing.T) {
	for n, want := range map[int]api.Errno{0: api.OK, api.MaxInput: api.OK, api.MaxInput + 1: api.EARG} {
		x, err := New(make([]int64, n))
		if err != want || (x == nil) != (err != api.OK) {
			t.Errorf("P18.1: New with %d numbers returns %d", n, err)
		}
	}
}

func TestTape(t *testing.T) {
	in := []int64{5, -6, 1 << 62}
	x, _ := New(in)
	in[0] = 9
	for _, want := range []int64{5, -6, 1 << 62} {
		if n, ok := x.Read(); n != want || !ok {
			t.Errorf("P18.1: Read is %d, %v", n, ok)
		}
	}
	if n, ok := x.Read(); n != 0 || ok {
		t.Errorf("P18.1: Read at the end is %d, %v", n, ok)
	}
	for _, n := range []int64{1, -2, 0} {
		x.Print(n)
	}
	if r, p := x.Marks(); r != 3 || p != 3 || x.Text() != "1\n-2\n0\n" || !slices.Equal(x.Out(), []int64{1, -2, 0}) {
		t.Errorf("P18.1: Marks is %d, %d, Text %q", r, p, x.Text())
	}
	x.Out()[0] = 7
	for _, c := range [][2]int{{-1, 0}, {0, -1}, {4, 0}, {0, 4}} {
		if err := x.Back(c[0], c[1]); err != api.EARG {
			t.Errorf("P18.1: Back(%v) returns %d", c, err)
		}
	}
	if r, p := x.Marks(); r != 3 || p != 3 {
		t.Error("P18.1: a Back that fails has an effect")
	}
	if err := x.Back(1, 2); err != api.OK || x.Text() != "1\n-2\n" {
		t.Errorf("P18.1: Back returns %d, the text is %q", err, x.Text())
	}
	x.Print(4)
	if n, _ := x.Read(); n != -6 || x.Text() != "1\n-2\n4\n" {
		t.Errorf("P18.1: after Back, Read is %d and the text %q", n, x.Text())
	}
	if err := x.Back(2, 3); err != api.OK {
		t.Errorf("P18.1: Back to the present returns %d", err)
	}
	e, _ := New(nil)
	if e.Text() != "" || len(e.Out()) != 0 || e.Back(0, 0) != api.OK {
		t.Error("P18.1: the empty tape")
	}
}

func TestExample(t *testing.T) {
	x, _ := New(nil)
	x.Print(5)
	x.Print(6)
	x.Back(0, 1)
	if !slices.Equal(x.Out(), []int64{5}) {
		t.Errorf("P18.1: the output is %v", x.Out())
	}
}

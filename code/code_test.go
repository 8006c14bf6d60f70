package code

import (
	"bytes"
	"math"
	"slices"
	"testing"

	"hindsight/api"
)

func TestPutAndGet(t *testing.T) {
	for _, c := range []struct {
		i Instr
		b []byte
	}{
		{Instr{5, 0, -1}, []byte{133, 1}}, {Instr{0, 0, 0}, []byte{0}}, {Instr{63, 1, 0}, []byte{127, 2}}, {Instr{1, -64, 64}, []byte{193, 127, 128, 1}},
		{Instr{2, math.MaxInt64, math.MinInt64}, []byte{194, 254, 255, 255, 255, 255, 255, 255, 255, 255, 1, 255, 255, 255, 255, 255, 255, 255, 255, 255, 1}},
		{Instr{3, -2, 0}, []byte{67, 3}},
	} {
		if b := Put([]byte{9}, c.i); !bytes.Equal(b[1:], c.b) || b[0] != 9 || Size(c.i) != len(c.b) {
			t.Errorf("P14.1: Put %v is %v, Size %d", c.i, b, Size(c.i))
		}
		if i, n, err := Get(append(slices.Clone(c.b), 200)); i != c.i || n != len(c.b) || err != api.OK {
			t.Errorf("P14.1: Get %v is %v, %d, %d", c.b, i, n, err)
		}
		for cut := range c.b {
			if i, n, err := Get(c.b[:cut]); i != (Instr{}) || n != 0 || err != api.EFORM {
				t.Errorf("P14.1: Get %v is %v, %d, %d", c.b[:cut], i, n, err)
			}
		}
	}
	for _, i := range []Instr{{64, 0, 0}, {-1, 1, 1}} {
		if Good(i) || Size(i) != 0 || !bytes.Equal(Put([]byte{4}, i), []byte{4}) {
			t.Errorf("P14.1: %v is valid", i)
		}
	}
	if !Good(Instr{63, math.MinInt64, 5}) || !Good(Instr{}) {
		t.Error("P14.1: Good")
	}
	for _, b := range [][]byte{nil, {64}, {64, 0}, {128, 0}, {64, 128, 0}, {64, 130, 0}, {192, 1}, {192, 1, 0}, {192, 0, 1},
		{64, 255, 255, 255, 255, 255, 255, 255, 255, 255, 2}} {
		if i, n, err := Get(b); i != (Instr{}) || n != 0 || err != api.EFORM {
			t.Errorf("P14.1: Get %v is %v, %d, %d", b, i, n, err)
		}
	}
}

func TestPutApart(t *testing.T) {
	b := make([]byte, 1, 50)
	for _, i := range []Instr{{1, 2, 3}, {64, 0, 0}} {
		out := Put(b, i)
		out[0] = 7
		if b[0] != 0 || b[:2][1] != 0 {
			t.Error("R4: Put writes into its argument")
		}
	}
}

func TestAll(t *testing.T) {
	l := []Instr{{1, 0, 0}, {2, 5, -5}, {63, 0, 1 << 40}}
	var b []byte
	for _, i := range l {
		b = Put(b, i)
	}
	if got, err := All(b); !slices.Equal(got, l) || err != api.OK {
		t.Errorf("P14.1: All is %v, %d", got, err)
	}
	if got, err := All(nil); len(got) != 0 || err != api.OK {
		t.Errorf("P14.1: All of nothing is %v, %d", got, err)
	}
	many := make([]byte, 100000)
	for _, c := range []struct {
		b    []byte
		want api.Errno
	}{{b[:len(b)-1], api.EFORM}, {append(slices.Clone(b), 64), api.EFORM}, {many, api.OK}, {append(many, 0), api.ELIMIT}, {append(many, 0, 64), api.EFORM}} {
		got, err := All(c.b)
		if err != c.want || err != api.OK && got != nil || err == api.OK && len(got) != len(many) {
			t.Errorf("P14.1: All is %d instructions, %d, want %d", len(got), err, c.want)
		}
	}
}

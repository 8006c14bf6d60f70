package word

import (
	"math"
	"testing"
)

func TestNumbers(t *testing.T) {
	for _, c := range []struct {
		n    int64
		w    Word
		back int64
	}{
		{-1, math.MaxUint64, -1}, {0, 1, 0}, {1, 3, 1}, {4611686018427387903, 1<<63 - 1, 4611686018427387903},
		{-4611686018427387904, 1<<63 + 1, -4611686018427387904}, {4611686018427387904, 1<<63 + 1, -4611686018427387904},
		{math.MinInt64, 1, 0}, {math.MaxInt64, math.MaxUint64, -1},
	} {
		if w := Num(c.n); w != c.w {
			t.Errorf("P11.1: Num(%d) is %d", c.n, w)
		}
		if n, ok := Int(c.w); n != c.back || !ok {
			t.Errorf("P11.1: Int(%d) is %d, %v", c.w, n, ok)
		}
		if at, ok := At(c.w); at != 0 || ok {
			t.Errorf("P11.1: At(%d) is %d, %v", c.w, at, ok)
		}
	}
}

func TestPlaces(t *testing.T) {
	for _, c := range []struct {
		at   int
		w    Word
		back int
	}{{0, 0, 0}, {1, 2, 1}, {-1, 0, 0}, {1<<31 - 1, 1<<32 - 2, 1<<31 - 1}, {1 << 31, 1<<32 - 2, 1<<31 - 1}, {math.MaxInt, 1<<32 - 2, 1<<31 - 1}, {math.MinInt, 0, 0}} {
		if w := Ptr(c.at); w != c.w {
			t.Errorf("P11.1: Ptr(%d) is %d", c.at, w)
		}
		if at, ok := At(c.w); at != c.back || !ok {
			t.Errorf("P11.1: At(%d) is %d, %v", c.w, at, ok)
		}
		if n, ok := Int(c.w); n != 0 || ok {
			t.Errorf("P11.1: Int(%d) is %d, %v", c.w, n, ok)
		}
	}
	for _, w := range []Word{1 << 32, math.MaxUint64 - 1, 1 << 63} {
		if at, ok := At(w); at != 0 || ok {
			t.Errorf("P11.1: At(%d) is %d, %v", w, at, ok)
		}
	}
}

func TestHeads(t *testing.T) {
	for _, c := range []struct {
		kind, tag, size int
		w               Word
	}{{1, 0, 0, 1<<25 + 1}, {3, 255, 65535, (3<<24+255<<16+65535)*2 + 1}, {2, 7, 3, (2<<24+7<<16+3)*2 + 1}} {
		if w, ok := Head(c.kind, c.tag, c.size); w != c.w || !ok {
			t.Errorf("P11.1: Head(%d, %d, %d) is %d, %v", c.kind, c.tag, c.size, w, ok)
		}
		if k, g, s, ok := Split(c.w); k != c.kind || g != c.tag || s != c.size || !ok {
			t.Errorf("P11.1: Split(%d) is %d, %d, %d, %v", c.w, k, g, s, ok)
		}
	}
	for _, c := range [][3]int{{0, 0, 0}, {4, 0, 0}, {1, -1, 0}, {1, 256, 0}, {1, 0, -1}, {1, 0, 65536}, {-1, 1, 1}} {
		if w, ok := Head(c[0], c[1], c[2]); w != 0 || ok {
			t.Errorf("P11.1: Head(%v) is %d, %v", c, w, ok)
		}
	}
	for _, w := range []Word{0, 1, 1 << 25, 1<<24 + 1, 1<<27 + 1, math.MaxUint64, 1<<63 + 1<<25 + 1} {
		if k, g, s, ok := Split(w); k != 0 || g != 0 || s != 0 || ok {
			t.Errorf("P11.1: Split(%d) is %d, %d, %d, %v", w, k, g, s, ok)
		}
	}
}

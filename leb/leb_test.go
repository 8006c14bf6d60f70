package leb

import (
	"bytes"
	"math"
	"testing"
)

func TestNumbers(t *testing.T) {
	for n, want := range map[uint64][]byte{0: {0}, 1: {1}, 127: {127}, 128: {128, 1}, 300: {172, 2}, 1 << 14: {128, 128, 1},
		math.MaxUint64: {255, 255, 255, 255, 255, 255, 255, 255, 255, 1}} {
		b := Put([]byte{7}, n)
		if !bytes.Equal(b[1:], want) || b[0] != 7 {
			t.Errorf("Put(%d) is %v", n, b)
		}
		if m, size := Get(append(b[1:], 9)); m != n || size != len(want) {
			t.Errorf("Get(%v) is %d, %d", b, m, size)
		}
	}
	for _, b := range [][]byte{nil, {128}, {128, 0}, {255, 128, 0}, {255, 255, 255, 255, 255, 255, 255, 255, 255, 2},
		{255, 255, 255, 255, 255, 255, 255, 255, 255, 255, 1}, {128, 128, 128, 128, 128, 128, 128, 128, 128, 128, 0}} {
		if n, size := Get(b); n != 0 || size != 0 {
			t.Errorf("Get(%v) is %d, %d", b, n, size)
		}
	}
}

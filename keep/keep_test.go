package keep

import (
	"math"
	"slices"
	"testing"

	"hindsight/api"
)

func TestNew(t *testing.T) {
	for i, c := range []struct {
		every int64
		most  int
		want  api.Errno
	}{{1, 2, api.OK}, {1000000, 64, api.OK}, {0, 2, api.EARG}, {-1, 2, api.EARG}, {1000001, 2, api.EARG}, {1, 1, api.EARG}, {1, 65, api.EARG}, {1, -2, api.EARG}} {
		k, err := New(c.every, c.most)
		if err != c.want || (k == nil) != (err != api.OK) {
			t.Errorf("P22.1: number %d: New returns %d", i, err)
		}
		if k != nil && (!slices.Equal(k.Kept(), []int64{0}) || k.Gap() != 0 || k.Before(99) != 0) {
			t.Errorf("P22.1: number %d: a new keeper keeps %v", i, k.Kept())
		}
	}
}

func TestAdd(t *testing.T) {
	for i, c := range []struct {
		every int64
		most  int
		add   []int64
		gone  []int64 // -1 for none
		kept  []int64
		gap   int64
	}{
		{1, 2, []int64{1, 2}, []int64{-1, 1}, []int64{0, 2}, 2},
		{1, 3, []int64{1, 2, 3, 4}, []int64{-1, -1, 1, 3}, []int64{0, 2, 4}, 2}, // of equal differences the smallest goes
		{10, 4, []int64{10, 50, 60, 70, 200}, []int64{-1, -1, -1, 60, 10}, []int64{0, 50, 70, 200}, 130},
		{1, 4, []int64{10, 11, 30, 31, 32}, []int64{-1, -1, -1, 10, 31}, []int64{0, 11, 30, 32}, 19},
		{1, 5, []int64{4, 5, math.MaxInt64}, []int64{-1, -1, -1}, []int64{0, 4, 5, math.MaxInt64}, math.MaxInt64 - 5},
	} {
		k, _ := New(c.every, c.most)
		for j, n := range c.add {
			gone, err := k.Add(n)
			if err != api.OK || len(gone) > 1 || (len(gone) == 0) != (c.gone[j] < 0) || len(gone) == 1 && gone[0] != c.gone[j] {
				t.Errorf("P22.1: number %d: Add(%d) is %v, %d", i, n, gone, err)
			}
		}
		if !slices.Equal(k.Kept(), c.kept) || k.Gap() != c.gap {
			t.Errorf("P22.1: number %d: kept are %v, Gap is %d", i, k.Kept(), k.Gap())
		}
	}
}

func TestWants(t *testing.T) {
	k, _ := New(5, 3)
	k.Add(10)
	for n, want := range map[int64]bool{0: false, 5: false, 10: false, 11: false, 14: false, 15: true, 1000: true, -5: false, -15: false} {
		if k.Wants(n) != want {
			t.Errorf("P22.1: Wants(%d) is %v", n, !want)
		}
		if !want {
			if gone, err := k.Add(n); err != api.EARG || gone != nil {
				t.Errorf("P22.1: Add(%d) is %v, %d", n, gone, err)
			}
		}
	}
	if !slices.Equal(k.Kept(), []int64{0, 10}) {
		t.Errorf("P22.1: an Add that fails has an effect: %v", k.Kept())
	}
}

func TestBefore(t *testing.T) {
	k, _ := New(1, 5)
	k.Add(3)
	k.Add(7)
	for n, want := range map[int64]int64{-1: 0, 0: 0, 2: 0, 3: 3, 6: 3, 7: 7, 100: 7, math.MinInt64: 0} {
		if got := k.Before(n); got != want {
			t.Errorf("P22.1: Before(%d) is %d", n, got)
		}
	}
	k.Kept()[1] = 5
	if k.Before(5) != 3 {
		t.Error("R4: Kept shares memory")
	}
}

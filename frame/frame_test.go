package frame

import (
	"math"
	"slices"
	"testing"

	"hindsight/api"
	"hindsight/word"
)

func fresh(t *testing.T, room int) *Stack {
	t.Helper()
	s, err := New(room)
	if err != api.OK {
		t.Fatal(err)
	}
	return s
}

func is(t *testing.T, what string, got, want api.Errno) {
	t.Helper()
	if got != want {
		t.Errorf("P17.1: %s returns %d, want %d", what, got, want)
	}
}

func TestNew(t *testing.T) {
	for room, want := range map[int]api.Errno{15: api.EARG, 16: api.OK, api.MaxStack: api.OK, api.MaxStack + 1: api.EARG, -16: api.EARG, math.MaxInt: api.EARG} {
		s, err := New(room)
		is(t, "New", err, want)
		if (s == nil) != (err != api.OK) {
			t.Error("P17.1: New returns a stack with an error")
		}
	}
}

func TestEmpty(t *testing.T) {
	s := fresh(t, 16)
	_, err := s.Get(0)
	is(t, "Get", err, api.ENONE)
	is(t, "Set", s.Set(-1, 1), api.ENONE)
	is(t, "Add", s.Add(1), api.ENONE)
	_, err = s.Take()
	is(t, "Take", err, api.ENONE)
	_, _, err = s.Pop()
	is(t, "Pop", err, api.ENONE)
	is(t, "Cut", s.Cut(0, 0), api.OK)
	is(t, "Cut", s.Cut(0, 1), api.EARG)
	is(t, "Cut", s.Cut(1, 0), api.EARG)
	is(t, "Renew", s.Renew(nil), api.OK)
	is(t, "Renew", s.Renew([]word.Word{1}), api.EARG)
	if s.Depth() != 0 || s.Added() != 0 || len(s.Calls()) != 0 || len(s.Roots()) != 0 {
		t.Error("P17.1: the empty stack")
	}
}

func TestFrames(t *testing.T) {
	s := fresh(t, 16)
	is(t, "Push", s.Push(0, 0, -1), api.EARG)
	is(t, "Push", s.Push(0, 0, 15), api.ESTACK)
	is(t, "Push", s.Push(0, 0, math.MaxInt), api.ESTACK)
	is(t, "Push", s.Push(7, -3, 2), api.OK)
	is(t, "Set", s.Set(1, 8), api.OK)
	is(t, "Set", s.Set(2, 8), api.EARG)
	is(t, "Set", s.Set(-1, 8), api.EARG)
	is(t, "Add", s.Add(20), api.OK)
	is(t, "Push", s.Push(9, 4, 1), api.OK)
	is(t, "Add", s.Add(30), api.OK)
	is(t, "Add", s.Add(31), api.OK)
	if got := s.Roots(); !slices.Equal(got, []word.Word{1, 8, 20, 1, 30, 31}) {
		t.Errorf("P17.1: Roots is %v", got)
	}
	if got := s.Calls(); !slices.Equal(got, []int{4, -3}) || s.Depth() != 2 || s.Added() != 2 {
		t.Errorf("P17.1: Calls is %v, Depth %d, Added %d", got, s.Depth(), s.Added())
	}
	if w, err := s.Get(0); w != 1 || err != api.OK {
		t.Errorf("P17.1: Get is %d, %d", w, err)
	}
	if w, err := s.Get(1); w != 0 || err != api.EARG {
		t.Errorf("P17.1: Get of an operand is %d, %d", w, err)
	}
	// 10 words are taken: 6 remain.
	is(t, "Push", s.Push(0, 0, 5), api.ESTACK)
	is(t, "Push", s.Push(0, 0, 4), api.OK)
	is(t, "Add", s.Add(1), api.ESTACK)
	if w, err := s.Take(); w != 0 || err != api.ENONE {
		t.Errorf("P17.1: Take without operands is %d, %d", w, err)
	}
	s.Pop()
	if w, err := s.Take(); w != 31 || err != api.OK {
		t.Errorf("P17.1: Take is %d, %d", w, err)
	}
	if back, call, err := s.Pop(); back != 9 || call != 4 || err != api.OK || s.Added() != 1 {
		t.Errorf("P17.1: Pop is %d, %d, %d", back, call, err)
	}
	is(t, "Push", s.Push(0, 0, 3), api.OK)
	if w, _ := s.Get(2); w != word.Num(0) {
		t.Errorf("P17.1: a slot of a new frame is %d", w)
	}
}

func TestRenew(t *testing.T) {
	s := fresh(t, 20)
	s.Push(0, 0, 1)
	s.Add(5)
	l := []word.Word{11, 13}
	is(t, "Renew", s.Renew(l), api.OK)
	is(t, "Renew", s.Renew(l[:1]), api.EARG)
	l[0] = 99
	s.Roots()[1] = 77
	if got := s.Roots(); !slices.Equal(got, []word.Word{11, 13}) {
		t.Errorf("P17.1: after Renew the words are %v", got)
	}
}

func TestCut(t *testing.T) {
	build := func() *Stack {
		s := fresh(t, 40)
		for i := range 3 {
			s.Push(i, 10+i, 2)
			for j := range 3 {
				s.Add(word.Word(100*i + j))
			}
		}
		return s
	}
	for i, c := range []struct {
		depth, added int
		want         api.Errno
	}{{3, 3, api.OK}, {3, 0, api.OK}, {2, 3, api.OK}, {1, 1, api.OK}, {0, 0, api.OK}, {4, 0, api.EARG}, {-1, 0, api.EARG}, {3, 4, api.EARG},
		{2, 4, api.EARG}, {2, -1, api.EARG}, {0, 1, api.EARG}, {1, math.MaxInt, api.EARG}} {
		s := build()
		is(t, "Cut", s.Cut(c.depth, c.added), c.want)
		if c.want != api.OK {
			c.depth, c.added = 3, 3
		}
		if s.Depth() != c.depth || s.Added() != c.added || len(s.Roots()) != max(0, 5*(c.depth-1))+min(c.depth, 1)*2+c.added {
			t.Errorf("P17.1: number %d: after Cut Depth is %d, Added %d, Roots %v", i, s.Depth(), s.Added(), s.Roots())
		}
	}
	s := build()
	s.Cut(2, 1)
	if w, _ := s.Take(); w != 100 {
		t.Errorf("P17.1: the operand that Cut leaves is %d", w)
	}
	if back, call, _ := s.Pop(); back != 1 || call != 11 {
		t.Errorf("P17.1: the frame that Cut leaves is %d, %d", back, call)
	}
}

func TestExample(t *testing.T) {
	s := fresh(t, 16)
	s.Push(1, 2, 0)
	s.Add(3)
	s.Pop()
	if _, err := s.Take(); err != api.ENONE {
		t.Error("P17.1: Take after Pop")
	}
}

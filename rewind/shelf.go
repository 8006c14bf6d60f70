package rewind

import (
	"slices"

	"hindsight/keep"
)

// shelf has the snapshots that are kept. They are kept whole: at each stop a state differs from that
// of the first stop in nearly all that it has, and to compare them takes longer than to execute the
// instructions between two stops.
type shelf struct {
	every int64
	most  int
	k     *keep.Keeper
	shots []shot
}

// shot is the state at a count.
type shot struct {
	count int64
	state []byte
}

// newShelf returns a shelf that keeps the state at count 0.
func newShelf(k *keep.Keeper, every int64, most int, first []byte) *shelf {
	return &shelf{every: every, most: most, k: k, shots: []shot{{0, first}}}
}

func (s *shelf) clone() *shelf {
	k, _ := keep.New(s.every, s.most)
	c := newShelf(k, s.every, s.most, s.shots[0].state)
	for _, x := range s.shots[1:] {
		c.add(x.count, x.state)
	}
	return c
}

// add keeps the state at a count that the keeper wants.
func (s *shelf) add(count int64, state []byte) {
	s.shots = append(s.shots, shot{count, state})
	gone, _ := s.k.Add(count)
	s.shots = slices.DeleteFunc(s.shots, func(x shot) bool { return slices.Contains(gone, x.count) })
}

// find returns the state at a count that has been kept.
func (s *shelf) find(count int64) []byte {
	i := slices.IndexFunc(s.shots, func(x shot) bool { return x.count == count })
	return s.shots[max(i, 0)].state
}

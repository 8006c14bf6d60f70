package rewind

import (
	"slices"

	"hindsight/api"
	"hindsight/keep"
	"hindsight/snap"
)

// shelf has the snapshots that are kept.
type shelf struct {
	every int64
	most  int
	k     *keep.Keeper
	first []byte // the state at count 0, which all others are represented by their differences from
	shots []shot
}

// shot is the state at a count: a patch, or the whole state if it is too great for one.
type shot struct {
	count int64
	b     []byte
	whole bool
}

func (s *shelf) clone() *shelf {
	c := &shelf{every: s.every, most: s.most, first: s.first, shots: slices.Clone(s.shots)}
	c.k, _ = keep.New(s.every, s.most)
	for _, x := range s.shots {
		c.k.Add(x.count)
	}
	return c
}

// add keeps the state at a count that the keeper wants.
func (s *shelf) add(count int64, state []byte) {
	x := shot{count: count, b: snap.Diff(s.first, state)}
	if x.b == nil {
		x.b, x.whole = state, true
	}
	s.shots = append(s.shots, x)
	gone, _ := s.k.Add(count)
	s.shots = slices.DeleteFunc(s.shots, func(x shot) bool { return slices.Contains(gone, x.count) })
}

// find returns the state at a count that has been kept.
func (s *shelf) find(count int64) []byte {
	for _, x := range s.shots {
		if x.count != count {
			continue
		}
		if x.whole {
			return x.b
		}
		if b, err := snap.Apply(s.first, x.b); err == api.OK {
			return b
		}
	}
	return s.first
}

// Package rewind moves a machine to any stop of an execution: see DOC.md, chapter 23. Package replay
// gives out copies of the machine; package debug, which looks at it at every stop, looks at it itself.
package rewind

import (
	"slices"

	"hindsight/api"
	"hindsight/image"
	"hindsight/keep"
	"hindsight/vm"
)

// Opt is how much there is of what.
type Opt struct {
	Room, Stack int
	Fuel, Every int64
	Most        int
}

// Replay is a machine with the snapshots of its past.
type Replay struct {
	m     image.Image
	input []int64
	fuel  int64
	past  *shelf
	v     *vm.Machine
	count int64
	end   int64 // the count of the end, or -1 as long as it has not been reached
	ran   int64
}

// New returns a replay that stands at count 0.
func New(m image.Image, input []int64, o Opt) (*Replay, api.Errno) {
	v, err := vm.New(m, input, o.Room, o.Stack)
	if err != api.OK {
		return nil, api.EARG
	}
	k, err := keep.New(o.Every, o.Most)
	if err != api.OK || o.Fuel < 1 || o.Fuel > api.MaxFuel {
		return nil, api.EARG
	}
	if m, err, _ = image.Build(m.Source); err != api.OK { // an image of its own
		return nil, api.EARG
	}
	r := &Replay{m: m, input: slices.Clone(input), fuel: o.Fuel, v: v, end: -1}
	if r.ran, err = v.ToStop(o.Fuel); err != api.OK {
		return nil, err
	}
	if v.Over() != api.Going {
		r.end = 0
	}
	r.past = newShelf(k, o.Every, o.Most, v.Put())
	return r, api.OK
}

// To moves to a count.
func (r *Replay) To(count int64) api.Errno {
	if count < 0 {
		return api.EARG
	}
	if r.end >= 0 && count > r.end {
		return api.EOVER
	}
	t := r.trip(count)
	return r.arrive(t, t.advance(count))
}

// Toward moves to a count, or to the end if it comes before. In one go no instruction is executed twice.
func (r *Replay) Toward(count int64) api.Errno {
	if r.end >= 0 {
		count = min(count, r.end)
	}
	t := r.trip(count)
	err := t.advance(count)
	if err == api.EOVER {
		err = api.OK
	}
	return r.arrive(t, err)
}

// trip begins a move to a count: from the present one, unless it is behind or a snapshot is nearer.
func (r *Replay) trip(count int64) *trip {
	if from := r.past.k.Before(count); r.count < from || r.count > count {
		return &trip{r: r, past: r.past, v: r.load(from), at: from}
	}
	return &trip{r: r, past: r.past, v: r.v, at: r.count}
}

// arrive ends a move. If it has failed, everything stays as it was before, and the machine, if it has
// been moved, is brought back.
func (r *Replay) arrive(t *trip, err api.Errno) api.Errno {
	switch {
	case err == api.OK:
		r.v, r.count, r.past = t.v, t.at, t.past
	case t.v == r.v:
		from := r.past.k.Before(r.count)
		back := trip{r: r, past: r.past, v: r.load(from), at: from}
		back.advance(r.count)
		r.v = back.v
	}
	return err
}

// Try does several moves; if they fail, the count and the snapshots are what they were before.
func (r *Replay) Try(moves func() api.Errno) api.Errno {
	count, past := r.count, r.past
	err := moves()
	if err != api.OK {
		r.past = past
		r.To(count)
	}
	return err
}

// load returns the machine as it was at a count that has been kept.
func (r *Replay) load(count int64) *vm.Machine {
	v, err := vm.Load(r.m, r.input, r.past.find(count))
	if err != api.OK {
		return r.v
	}
	return v
}

// Count returns the present count.
func (r *Replay) Count() int64 { return r.count }

// End returns the count of the end, if it has been reached.
func (r *Replay) End() (int64, bool) {
	if r.end < 0 {
		return 0, false
	}
	return r.end, true
}

// Live returns the machine at the present count; it is only to be looked at.
func (r *Replay) Live() *vm.Machine { return r.v }

// Copy returns a machine of its own that is at the present count.
func (r *Replay) Copy() *vm.Machine {
	v, err := vm.Load(r.m, r.input, r.v.Put())
	if err != api.OK {
		return r.v
	}
	return v
}

// Kept returns the counts of the snapshots.
func (r *Replay) Kept() []int64 { return r.past.k.Kept() }

// Ran returns the number of all instructions executed.
func (r *Replay) Ran() int64 { return r.ran }

// trip moves a machine forward. The snapshots that are taken on the way count only if it succeeds.
type trip struct {
	r    *Replay
	v    *vm.Machine
	at   int64
	past *shelf
}

func (t *trip) advance(count int64) api.Errno {
	for t.at < count {
		if t.v.Over() != api.Going {
			return api.EOVER
		}
		before := t.v.Ran()
		_, err := t.v.ToStop(t.r.fuel)
		t.r.ran += t.v.Ran() - before
		if err != api.OK {
			return err
		}
		t.at++
		if t.v.Over() != api.Going {
			t.r.end = t.at
		} else if t.past.k.Wants(t.at) {
			if t.past == t.r.past {
				t.past = t.past.clone()
			}
			t.past.add(t.at, t.v.Put())
		}
	}
	return api.OK
}

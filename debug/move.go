package debug

import (
	"slices"

	"hindsight/api"
	"hindsight/cmd"
)

// goal returns a function that reports, at each stop after the present one in turn, whether a command
// stops there.
func (d *Debugger) goal(x cmd.Cmd) func() bool {
	deep := d.depth()
	switch x.Kind {
	case 4, 8:
		return func() bool { return d.depth() <= deep }
	case 5:
		return func() bool { return d.depth() < deep }
	}
	return d.changes()
}

// changes reports, at each stop after the present one in turn, whether the stop has a breakpoint or a
// watched text is not what it was at the stop before.
func (d *Debugger) changes() func() bool {
	was := d.look()
	return func() bool {
		before := was
		was = d.look()
		return d.marks.On(d.line()) || !slices.Equal(before, was)
	}
}

// forward executes a command that moves forward.
func (d *Debugger) forward(x cmd.Cmd) api.Errno {
	if x.Kind == 3 {
		return d.r.Toward(d.Count() + x.N)
	}
	stops := d.goal(x)
	return d.r.Try(func() api.Errno {
		for {
			if err := d.r.To(d.Count() + 1); err != api.OK {
				return err
			}
			if d.atEnd() || stops() {
				return api.OK
			}
		}
	})
}

// backward returns the count that a command moves backward to.
func (d *Debugger) backward(x cmd.Cmd) int64 {
	from := d.Count()
	if x.Kind == 7 {
		return max(from-x.N, 0)
	}
	stops := d.goal(x)
	last := from - 1
	for _, first := range slices.Backward(d.Kept()) {
		if first >= last {
			continue
		}
		if x.Kind == 9 {
			d.r.To(first)
			stops = d.changes()
		}
		if k := d.last(first, last, stops); k > 0 {
			return k
		}
		last = first
	}
	return 0
}

// last returns the greatest count after first, up to last, at which a command stops, or 0.
func (d *Debugger) last(first, last int64, stops func() bool) int64 {
	found := int64(0)
	for k := first + 1; k <= last; k++ {
		if d.r.To(k) == api.OK && stops() {
			found = k
		}
	}
	return found
}

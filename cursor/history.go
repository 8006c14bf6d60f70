package cursor

import (
	"slices"
	"strconv"
	"strings"

	"hindsight/api"
	"hindsight/chars"
	"hindsight/infer"
	"hindsight/own"
	"hindsight/plan"
	"hindsight/run"
	"hindsight/tree"
	"hindsight/ty"
	"hindsight/val"
)

// history is all that has happened in an execution.
type history struct {
	spots   []spot // by node; those that are no stops are empty
	cons    []val.Arg
	moments []moment
	cells   [][]version // by cell
	writes  int
	out     []int64
	over    int
	err     int64
	value   val.Value
	main    ty.Type
}

// spot is what is known of a node before the execution. A stop has a line greater than 0.
type spot struct {
	line, col int
	names     []string
	types     []ty.Type
}

// moment is a stop of the execution.
type moment struct {
	node   int
	env    *val.Env
	call   *run.Call
	out    int // the numbers printed before
	writes int // the cells written before
}

// version is what a cell has had from a write on.
type version struct {
	write int
	v     val.Value
}

// record executes a program and notes its history.
func record(t tree.Tree, x infer.Types, src string, input []int64, most int64) (*history, api.Errno) {
	h := &history{spots: survey(t, x, src), main: own.Type(x.Main)}
	for _, d := range t.Types {
		for _, c := range d.Cons {
			h.cons = append(h.cons, val.Arg{Name: c.Name, Types: slices.Clone(c.Args)})
		}
	}
	m := run.New(t, input)
	for m.Over() == api.Going {
		if node, ok := m.Stands(); ok {
			h.moments = append(h.moments, moment{node, m.Env(), m.Call(), len(m.Out()), h.writes})
		}
		if m.Steps() == most {
			return nil, api.EFUEL
		}
		m.Step()
		if at := m.Wrote(); at >= 0 {
			h.write(at, m.Cells()[at])
		}
	}
	h.over, h.err, h.out = m.Over(), m.Error(), m.Out()
	h.value, _ = m.Value()
	return h, api.OK
}

// survey finds the line and the variables of each stop.
func survey(t tree.Tree, x infer.Types, src string) []spot {
	p := plan.Of(t)
	l := make([]spot, len(t.Nodes))
	for _, at := range tree.Stops(t) {
		s := &l[at]
		s.line, s.col = chars.Pos(src, t.Nodes[at].From)
		s.names = p.Scope(at)
		for _, name := range s.names {
			node, param, _ := p.Binder(at, name)
			from := x.Names
			if param {
				from = x.Params
			}
			var bound ty.Type
			if node < len(from) {
				bound = own.Type(from[node])
			}
			s.types = append(s.types, bound)
		}
	}
	return l
}

func (h *history) write(cell int, v val.Value) {
	for len(h.cells) <= cell {
		h.cells = append(h.cells, nil)
	}
	h.cells[cell] = append(h.cells[cell], version{h.writes, v})
	h.writes++
}

func (h *history) end() int64 { return int64(len(h.moments)) }

// spot returns the node of a count that is not the end.
func (h *history) spot(k int64) *spot { return &h.spots[h.moments[k].node] }

func (h *history) onLine(line int) bool {
	return slices.ContainsFunc(h.spots, func(s spot) bool { return s.line == line && line > 0 })
}

// depth returns the number of active calls.
func (h *history) depth(k int64) int {
	if k == h.end() || h.moments[k].call == nil {
		return 0
	}
	return h.moments[k].call.Depth
}

// position returns what the commands that move reply with.
func (h *history) position(k int64) string {
	s := "#" + strconv.FormatInt(k, 10) + " "
	if k < h.end() {
		return s + place(h.spot(k))
	}
	switch h.over {
	case api.Raised:
		return s + "raised " + strconv.FormatInt(h.err, 10)
	case api.Starve:
		return s + "starve"
	}
	return s + "value " + h.render(h.value, h.main, h.writes)
}

func place(s *spot) string {
	return strconv.Itoa(s.line) + ":" + strconv.Itoa(s.col)
}

// text returns the text of a variable, if it is in scope.
func (h *history) text(k int64, name string) (string, bool) {
	if k == h.end() {
		return "", false
	}
	i := slices.Index(h.spot(k).names, name)
	if i < 0 {
		return "", false
	}
	return h.local(k, i), true
}

// local returns the text of the i-th variable in scope.
func (h *history) local(k int64, i int) string {
	m, s := &h.moments[k], h.spot(k)
	v, _ := run.Find(m.env, s.names[i])
	return h.render(v, s.types[i], m.writes)
}

func (h *history) locals(k int64) string {
	if k == h.end() {
		return ""
	}
	var l []string
	for i, name := range h.spot(k).names {
		l = append(l, name+" = "+h.local(k, i))
	}
	return strings.Join(l, "\n")
}

// render returns the text of a value after so many writes. Only the cells that the value leads to are
// passed on, with numbers of their own: a value of a program with types leads to one cell for each
// reference in its type.
func (h *history) render(v val.Value, t ty.Type, writes int) string {
	first := v
	first.At = 0
	var cells []val.Value
	for of := t; of.Kind == 6 && len(of.Args) == 1 && v.Kind == 6; of = of.Args[0] {
		now, ok := h.content(v.At, writes)
		if !ok {
			break
		}
		v = now
		now.At = len(cells) + 1
		cells = append(cells, now)
	}
	return val.Render(first, t, cells, h.cons)
}

// content returns what a cell has after so many writes.
func (h *history) content(cell, writes int) (val.Value, bool) {
	if cell >= len(h.cells) {
		return val.Value{}, false
	}
	l := h.cells[cell]
	i, _ := slices.BinarySearchFunc(l, writes, func(x version, writes int) int { return x.write - writes })
	if i == 0 {
		return val.Value{}, false
	}
	return l[i-1].v, true
}

func (h *history) backtrace(k int64) string {
	if k == h.end() {
		return ""
	}
	var l []string
	for c := h.moments[k].call; c != nil; c = c.Up {
		l = append(l, place(&h.spots[c.Node]))
	}
	return strings.Join(l, "\n")
}

// printed returns the output up to a count.
func (h *history) printed(k int64) string {
	many := len(h.out)
	if k < h.end() {
		many = h.moments[k].out
	}
	var b []byte
	for i, n := range h.out[:many] {
		if i > 0 {
			b = append(b, ',')
		}
		b = strconv.AppendInt(b, n, 10)
	}
	return string(b)
}

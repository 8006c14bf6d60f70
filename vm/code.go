package vm

import (
	"slices"

	"hindsight/api"
	"hindsight/frame"
	"hindsight/heap"
	"hindsight/image"
	"hindsight/tape"
	"hindsight/word"
)

const numberBytes = 8

// Put returns an encoding of the state.
func (v *Machine) Put() []byte {
	roots, out, h := v.f.Roots(), v.t.Out(), v.h.Put()
	read, _ := v.t.Marks()
	size := len(v.source) + len(h) + numberBytes*(30+len(v.input)+len(roots)+len(out)+5*len(v.acts)+3*len(v.handlers))
	w := writer{b: make([]byte, 0, size)}
	w.text([]byte(v.source))
	w.list(v.input)
	w.numbers(v.room, v.stack, v.pc, int(v.stops), int(v.ran), v.over, int(v.fault), int(v.err), int(v.result), read)
	w.list(out)
	w.numbers(len(v.handlers))
	for _, h := range v.handlers {
		w.numbers(h.depth, h.added, h.pc)
	}
	w.numbers(len(v.acts))
	for _, a := range v.acts {
		w.numbers(a.piece, a.back, a.call, a.slots, a.under)
	}
	w.numbers(v.f.Added(), len(roots))
	for _, r := range roots {
		w.numbers(int(r))
	}
	w.text(h)
	return w.b
}

type writer struct{ b []byte }

func (w *writer) numbers(l ...int) {
	for _, n := range l {
		w.b = append(w.b, byte(n>>56), byte(n>>48), byte(n>>40), byte(n>>32), byte(n>>24), byte(n>>16), byte(n>>8), byte(n))
	}
}

func (w *writer) list(l []int64) {
	w.numbers(len(l))
	for _, n := range l {
		w.numbers(int(n))
	}
}

func (w *writer) text(b []byte) {
	w.numbers(len(b))
	w.b = append(w.b, b...)
}

// Load returns the machine that has the encoding b.
func Load(m image.Image, input []int64, b []byte) (*Machine, api.Errno) {
	r := reader{b: b}
	if string(r.text()) != m.Source || !slices.Equal(r.list(), input) || r.bad {
		return nil, api.EFORM
	}
	v := program(m, input)
	v.room, v.stack, v.pc = r.number(), r.number(), r.number()
	v.stops, v.ran = int64(r.number()), int64(r.number())
	v.over, v.fault, v.err, v.result = r.number(), api.Errno(r.number()), int64(r.number()), word.Word(r.number())
	read, out := r.number(), r.list()
	for range r.many(3) {
		v.handlers = append(v.handlers, handler{r.number(), r.number(), r.number()})
	}
	for range r.many(5) {
		v.acts = append(v.acts, act{r.number(), r.number(), r.number(), r.number(), r.number()})
	}
	added := r.number()
	var roots []word.Word
	for range r.many(1) {
		roots = append(roots, word.Word(r.number()))
	}
	h, err := heap.Load(r.text())
	if r.bad || len(r.b) > 0 || err != api.OK || h.Room() != v.room || v.over < api.Going || v.over > api.Starve {
		return nil, api.EFORM
	}
	v.h = h
	if !v.restack(added, roots) || !v.rewind(read, out) {
		return nil, api.EFORM
	}
	return v, api.OK
}

// restack builds the frames.
func (v *Machine) restack(added int, roots []word.Word) bool {
	f, err := frame.New(v.stack)
	if err != api.OK {
		return false
	}
	v.f = f
	for _, a := range v.acts {
		if a.piece < 0 || a.piece >= len(v.pieces) || !v.fill(a.under) || f.Push(a.back, a.call, a.slots) != api.OK {
			return false
		}
	}
	return v.fill(added) && f.Renew(roots) == api.OK
}

// fill pushes operands, whose words are set later.
func (v *Machine) fill(many int) bool {
	for range many {
		if v.f.Add(word.Num(0)) != api.OK {
			return false
		}
	}
	return many >= 0
}

// rewind brings the tape to where it was.
func (v *Machine) rewind(read int, out []int64) bool {
	t, err := tape.New(v.input)
	if err != api.OK || read < 0 || read > len(v.input) {
		return false
	}
	for range read {
		t.Read()
	}
	for _, n := range out {
		t.Print(n)
	}
	v.t = t
	return true
}

// reader reads an encoding. After something that is not encoded it reads only zeros.
type reader struct {
	b   []byte
	bad bool
}

func (r *reader) number() int {
	if r.bad || len(r.b) < numberBytes {
		r.bad = true
		return 0
	}
	n := uint64(0)
	for _, c := range r.b[:numberBytes] {
		n = n<<8 | uint64(c)
	}
	r.b = r.b[numberBytes:]
	return int(n)
}

// many reads how many entries of so many numbers follow.
func (r *reader) many(numbers int) int {
	n := r.number()
	if n < 0 || n > len(r.b)/(numbers*numberBytes) {
		r.bad = true
		return 0
	}
	return n
}

func (r *reader) list() []int64 {
	var l []int64
	for range r.many(1) {
		l = append(l, int64(r.number()))
	}
	return l
}

func (r *reader) text() []byte {
	n := r.number()
	if n < 0 || n > len(r.b) {
		r.bad = true
		return nil
	}
	b := r.b[:n]
	r.b = r.b[n:]
	return b
}

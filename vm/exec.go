package vm

import (
	"hindsight/api"
	"hindsight/code"
	"hindsight/ops"
	"hindsight/word"
)

// exec executes an instruction; the one behind it stands at next. If it returns an error, the
// instruction has had no effect.
func (v *Machine) exec(i code.Instr, next int) api.Errno {
	if i.Op >= ops.Add && i.Op <= ops.Equal {
		v.operate(i.Op)
		v.pc = next
		return api.OK
	}
	var err api.Errno
	switch i.Op {
	case ops.Mark:
	case ops.Enter:
		err = v.enter()
	case ops.Number:
		err = v.f.Add(word.Num(i.A))
	case ops.Slot, ops.Caught, ops.Self, ops.Copy:
		err = v.load(i)
	case ops.Store:
		err = v.store(int(i.A))
	case ops.Function, ops.Construct, ops.Cell:
		err = v.build(i)
	case ops.Drop:
		v.f.Take()
	case ops.Field:
		v.f.Add(v.field(int(i.A)))
	case ops.Content:
		v.f.Add(v.field(0))
	case ops.Assign:
		v.assign()
	case ops.Print:
		v.t.Print(v.number())
		v.f.Add(word.Num(0))
	case ops.Try:
		v.handlers = append(v.handlers, handler{v.f.Depth(), v.f.Added(), int(i.A)})
	case ops.Untry:
		v.handlers = v.handlers[:max(len(v.handlers)-1, 0)]
	default:
		return v.turn(i, next)
	}
	if err == api.OK {
		v.pc = next
	}
	return err
}

// turn executes an instruction that does not always go on at next.
func (v *Machine) turn(i code.Instr, next int) api.Errno {
	goal := int(i.A)
	switch i.Op {
	case ops.Call:
		return v.call(goal, next)
	case ops.Read:
		return v.read(next)
	case ops.Return:
		v.back()
		return api.OK
	case ops.Raise:
		v.raise(v.number())
		return api.OK
	case ops.Stuck:
		v.handlers = nil
		v.raise(0)
		return api.OK
	case ops.End:
		v.result, _ = v.f.Take()
		v.over = api.Value
		return api.OK
	case ops.Jump:
		v.pc = goal
		return api.OK
	case ops.Unless:
		v.branch(v.number() != 0, next, goal)
		return api.OK
	case ops.IfNot:
		w, _ := v.f.Take()
		v.branch(w == word.Num(i.B), next, goal)
		return api.OK
	case ops.IfTag:
		w, _ := v.f.Take()
		kind, tag, _, err := v.h.Head(w)
		v.branch(err == api.OK && kind == 1 && int64(tag) == i.B, next, goal)
		return api.OK
	}
	return api.EFORM
}

func (v *Machine) branch(on bool, next, goal int) {
	if on {
		v.pc = next
	} else {
		v.pc = goal
	}
}

// number takes a number.
func (v *Machine) number() int64 {
	w, _ := v.f.Take()
	n, _ := word.Int(w)
	return n
}

// field takes an object and returns a word of it.
func (v *Machine) field(i int) word.Word {
	p, _ := v.f.Take()
	w, _ := v.h.Get(p, i)
	return w
}

func (v *Machine) assign() {
	w, _ := v.f.Take()
	p, _ := v.f.Take()
	v.h.Set(p, 0, w)
	v.f.Add(word.Num(0))
}

func (v *Machine) operate(op int) {
	b := v.number()
	a := v.number()
	n := int64(0)
	switch op {
	case ops.Add:
		n = a + b
	case ops.Subtract:
		n = a - b
	case ops.Multiply:
		n = a * b
	case ops.Less:
		n = truth(a < b)
	case ops.Equal:
		n = truth(a == b)
	}
	v.f.Add(word.Num(n))
}

func truth(b bool) int64 {
	if b {
		return 1
	}
	return 0
}

// enter pushes the frame of the root. Its slots may need more words than there are, although the
// program has not begun and chapter 20 permits no fault yet: then the fault is left to the first
// instruction that stores something in them.
func (v *Machine) enter() api.Errno {
	slots := v.pieces[0].Slots
	if err := v.f.Push(-1, -1, slots); err != api.OK {
		slots = 0
		if err := v.f.Push(-1, -1, slots); err != api.OK {
			return err
		}
	}
	v.acts = append(v.acts, act{back: -1, call: -1, slots: slots})
	return api.OK
}

func (v *Machine) load(i code.Instr) api.Errno {
	var w word.Word
	var err api.Errno
	switch i.Op {
	case ops.Slot:
		w, err = v.f.Get(int(i.A))
	case ops.Caught:
		w, err = v.caught(int(i.A))
	case ops.Self:
		w, err = v.self()
	case ops.Copy:
		w, err = v.f.Take()
		v.f.Add(w)
	}
	if err != api.OK {
		return err
	}
	return v.f.Add(w)
}

func (v *Machine) store(i int) api.Errno {
	w, _ := v.f.Take()
	if err := v.f.Set(i, w); err != api.OK {
		v.f.Add(w)
		return api.ESTACK
	}
	return api.OK
}

// self returns the function of the top frame, which is in the frame's last slot.
func (v *Machine) self() (word.Word, api.Errno) {
	if len(v.acts) == 0 {
		return 0, api.EARG
	}
	return v.f.Get(v.acts[len(v.acts)-1].slots - 1)
}

// caught returns a variable that the function of the top frame has captured.
func (v *Machine) caught(i int) (word.Word, api.Errno) {
	p, err := v.self()
	if err != api.OK {
		return 0, err
	}
	return v.h.Get(p, i+1)
}

// build takes operands and pushes an object that is made of them.
func (v *Machine) build(i code.Instr) api.Errno {
	kind, tag, many := 1, int(i.A), int(i.B)
	switch i.Op {
	case ops.Function:
		kind, tag = 2, 0
		return v.object(kind, tag, many, word.Num(i.A))
	case ops.Cell:
		kind, tag, many = 3, 0, 1
	}
	return v.object(kind, tag, many)
}

// object makes an object of the words and of so many operands. An operand stands in for it first, so
// that a lack of stack is found before anything is changed.
func (v *Machine) object(kind, tag, many int, words ...word.Word) api.Errno {
	if many < 0 || many > v.f.Added() {
		return api.EFORM
	}
	if many == 0 {
		if err := v.f.Add(word.Num(0)); err != api.OK {
			return err
		}
	}
	if !v.reserve(1 + len(words) + many) {
		if many == 0 {
			v.f.Take()
		}
		return api.EHEAP
	}
	first := len(words)
	words = append(words, make([]word.Word, many)...)
	for j := len(words) - 1; j >= first; j-- {
		words[j], _ = v.f.Take()
	}
	if many == 0 {
		v.f.Take()
	}
	p, err := v.h.Make(kind, tag, words...)
	if err != api.OK {
		return err
	}
	return v.f.Add(p)
}

// reserve makes sure that so many words of the heap are free, if they can be.
func (v *Machine) reserve(many int) bool {
	if v.h.Used()+many <= v.room {
		return true
	}
	v.f.Renew(v.h.Collect(v.f.Roots()...))
	return v.h.Used()+many <= v.room
}

// call takes a function and an argument, and begins the body of the function.
func (v *Machine) call(node, next int) api.Errno {
	arg, _ := v.f.Take()
	fun, _ := v.f.Take()
	w, _ := v.h.Get(fun, 0)
	n, ok := word.Int(w)
	if !ok || n < 0 || n >= int64(len(v.pieces)) {
		return api.EFORM
	}
	p := v.pieces[n]
	a := act{piece: int(n), back: next, call: node, slots: p.Slots + 1, under: v.f.Added()}
	if err := v.f.Push(next, node, a.slots); err != api.OK {
		v.f.Add(fun)
		v.f.Add(arg)
		return err
	}
	v.acts = append(v.acts, a)
	v.f.Set(0, arg)
	v.f.Set(p.Slots, fun)
	v.pc = p.PC
	return api.OK
}

// back returns from a call with the last operand.
func (v *Machine) back() {
	w, _ := v.f.Take()
	v.pc, _, _ = v.f.Pop()
	v.acts = v.acts[:max(len(v.acts)-1, 0)]
	v.f.Add(w)
}

func (v *Machine) read(next int) api.Errno {
	read, printed := v.t.Marks()
	n, ok := v.t.Read()
	if !ok {
		v.over = api.Starve
		return api.OK
	}
	if err := v.f.Add(word.Num(n)); err != api.OK {
		v.t.Back(read, printed)
		return err
	}
	v.pc = next
	return api.OK
}

// raise goes on in the innermost handler, with the number as an operand.
func (v *Machine) raise(n int64) {
	last := len(v.handlers) - 1
	if last < 0 {
		v.over, v.err = api.Raised, n
		v.cut(1, 0)
		return
	}
	h := v.handlers[last]
	v.handlers = v.handlers[:last]
	v.cut(h.depth, h.added)
	v.f.Add(word.Num(n))
	v.pc = h.pc
}

func (v *Machine) cut(depth, added int) {
	if v.f.Cut(depth, added) == api.OK {
		v.acts = v.acts[:depth]
	}
}

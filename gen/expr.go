package gen

import (
	"hindsight/ops"
	"hindsight/tree"
)

// expr writes code that pushes the value of a node.
func (w *writer) expr(at int) {
	n := w.t.Nodes[at]
	switch n.Kind {
	case 7, 8, 9, 10, 11, 13, 17, 18, 19, 20:
		w.marks = append(w.marks, len(w.lines))
		w.emit(ops.Mark, int64(at), 0)
	}
	switch n.Kind {
	case 1, 2, 3:
		w.emit(ops.Number, n.N, 0)
	case 4:
		w.load(at, n.Name)
	case 5:
		w.construct(n)
	case 6:
		w.closure(at)
	case 7:
		w.exprs(n.Kids)
		w.emit(ops.Call, int64(at), 0)
	case 8:
		w.expr(n.Kids[0])
		w.store(at)
		w.expr(n.Kids[1])
	case 9:
		w.closure(at)
		w.store(at)
		w.expr(n.Kids[1])
	case 10:
		w.choose(n)
	case 11:
		w.match(n)
	case 12:
		w.expr(n.Kids[0])
		w.emit(ops.Drop, 0, 0)
		w.expr(n.Kids[1])
	case 20:
		w.attempt(at, n)
	default:
		w.exprs(n.Kids)
		w.emit(operation(n), 0, 0)
	}
}

func (w *writer) exprs(l []int) {
	for _, k := range l {
		w.expr(k)
	}
}

// operation returns the operation that is applied to the values of the children.
func operation(n tree.Node) int {
	switch n.Kind {
	case 13:
		return ops.Assign
	case 15:
		return ops.Cell
	case 16:
		return ops.Content
	case 17:
		return ops.Print
	case 18:
		return ops.Read
	case 19:
		return ops.Raise
	}
	switch n.Name {
	case "+":
		return ops.Add
	case "-":
		return ops.Subtract
	case "*":
		return ops.Multiply
	case "<":
		return ops.Less
	}
	return ops.Equal
}

// load pushes a variable as the code of a node sees it.
func (w *writer) load(at int, name string) {
	p, _ := w.p.Where(at, name)
	switch p.Kind {
	case 1:
		w.emit(ops.Slot, int64(p.N), 0)
	case 2:
		w.emit(ops.Caught, int64(p.N), 0)
	case 3:
		w.emit(ops.Self, 0, 0)
	}
}

// store takes an operand into the slot of the name that a node binds.
func (w *writer) store(at int) {
	w.emit(ops.Store, int64(w.p.Slot(at)), 0)
}

// closure pushes the function of a node.
func (w *writer) closure(at int) {
	i := w.p.Inner[at]
	caught := w.p.Funs[i].Caught
	for _, name := range caught {
		w.load(at, name)
	}
	w.emit(ops.Function, int64(i), int64(len(caught)))
}

func (w *writer) construct(n tree.Node) {
	_, tag, _ := tree.Of(w.t, n.Name)
	if len(n.Kids) == 0 {
		w.emit(ops.Number, int64(tag), 0)
		return
	}
	w.exprs(n.Kids)
	w.emit(ops.Construct, int64(tag), int64(len(n.Kids)))
}

func (w *writer) choose(n tree.Node) {
	other, end := w.label(), w.label()
	w.expr(n.Kids[0])
	w.jump(ops.Unless, other, 0)
	w.expr(n.Kids[1])
	w.jump(ops.Jump, end, 0)
	w.put(other)
	w.expr(n.Kids[2])
	w.put(end)
}

func (w *writer) attempt(at int, n tree.Node) {
	handler, end := w.label(), w.label()
	w.jump(ops.Try, handler, 0)
	w.expr(n.Kids[0])
	w.emit(ops.Untry, 0, 0)
	w.jump(ops.Jump, end, 0)
	w.put(handler)
	w.store(at)
	w.expr(n.Kids[1])
	w.put(end)
}

// match keeps the value that is matched as an operand until a pattern has matched it.
func (w *writer) match(n tree.Node) {
	end := w.label()
	w.expr(n.Kids[0])
	for i := 1; i < len(n.Kids); i += 2 {
		other := w.label()
		w.pattern(n.Kids[i], nil, other)
		w.emit(ops.Drop, 0, 0)
		w.expr(n.Kids[i+1])
		w.jump(ops.Jump, end, 0)
		w.put(other)
	}
	w.emit(ops.Stuck, 0, 0)
	w.put(end)
}

// pattern examines the part of the value that the path leads to, and goes to other if it does not
// match. Variables are stored at once: if another part does not match, nobody looks at them.
func (w *writer) pattern(at int, path []int, other label) {
	n := w.t.Nodes[at]
	if n.Kind == 21 || n.Kind == 25 {
		return
	}
	w.emit(ops.Copy, 0, 0)
	for _, i := range path {
		w.emit(ops.Field, int64(i), 0)
	}
	switch n.Kind {
	case 22:
		w.store(at)
	case 23, 24:
		w.jump(ops.IfNot, other, n.N)
	case 26:
		_, tag, _ := tree.Of(w.t, n.Name)
		if len(n.Kids) == 0 {
			w.jump(ops.IfNot, other, int64(tag))
			return
		}
		w.jump(ops.IfTag, other, int64(tag))
		for i, k := range n.Kids {
			w.pattern(k, append(path[:len(path):len(path)], i), other)
		}
	}
}

package infer

import (
	"hindsight/tree"
	"hindsight/ty"
)

// node follows the rule for the kind of a node.
func (w *walk) node(at int, n tree.Node) ty.Type {
	switch n.Kind {
	case 1, 23:
		return intType()
	case 2, 24:
		return boolType()
	case 3, 25:
		return unitType()
	case 4:
		return w.find(n.Name, at)
	case 5, 26:
		return w.construct(n)
	case 6:
		x := w.s.Fresh()
		w.params[at] = x
		return fn(x, w.with(n.Kids[0], mono(n.Param, x)))
	case 7:
		x := w.s.Fresh()
		f, a := w.visit(n.Kids[0]), w.visit(n.Kids[1])
		w.unify(f, fn(a, x), n.Kids[0])
		return x
	case 8:
		return w.let(at, n)
	case 9:
		return w.letRec(at, n)
	case 11:
		return w.match(n)
	case 21:
		return w.s.Fresh()
	case 22:
		w.names[at] = w.s.Fresh()
		return w.names[at]
	}
	return w.effect(at, n)
}

// effect follows the rules that need neither patterns nor schemes.
func (w *walk) effect(at int, n tree.Node) ty.Type {
	switch n.Kind {
	case 10:
		w.want(n.Kids[0], boolType())
		t := w.visit(n.Kids[1])
		w.want(n.Kids[2], t)
		return t
	case 12:
		w.want(n.Kids[0], unitType())
		return w.visit(n.Kids[1])
	case 13:
		a, b := w.visit(n.Kids[0]), w.visit(n.Kids[1])
		w.unify(a, ref(b), n.Kids[0])
		return unitType()
	case 14:
		w.want(n.Kids[0], intType())
		w.want(n.Kids[1], intType())
		if n.Name == "<" || n.Name == "=" {
			return boolType()
		}
		return intType()
	case 15:
		return ref(w.visit(n.Kids[0]))
	case 16:
		x := w.s.Fresh()
		w.want(n.Kids[0], ref(x))
		return x
	case 17:
		w.want(n.Kids[0], intType())
		return unitType()
	case 18:
		return intType()
	case 19:
		x := w.s.Fresh()
		w.want(n.Kids[0], intType())
		return x
	}
	return w.try(at, n)
}

func (w *walk) try(at int, n tree.Node) ty.Type {
	t := w.visit(n.Kids[0])
	w.params[at] = intType()
	k := n.Kids[1]
	w.unify(w.with(k, mono(n.Param, intType())), t, k)
	return t
}

// construct follows the rule for constructors in expressions and in patterns.
func (w *walk) construct(n tree.Node) ty.Type {
	d, c, _ := tree.Of(w.t, n.Name)
	decl := w.t.Types[d]
	for i, k := range n.Kids {
		w.want(k, named(decl.Cons[c].Args[i]))
	}
	return named(decl.Name)
}

func (w *walk) let(at int, n tree.Node) ty.Type {
	t := w.visit(n.Kids[0])
	w.names[at] = t
	e := mono(n.Name, t)
	if w.general(n.Kids[0]) {
		e.c = w.close(t)
	}
	return w.with(n.Kids[1], e)
}

func (w *walk) letRec(at int, n tree.Node) ty.Type {
	f, x, r := w.s.Fresh(), w.s.Fresh(), w.s.Fresh()
	w.names[at], w.params[at] = f, x
	w.unify(f, fn(x, r), at)
	k := n.Kids[0]
	w.unify(w.with(k, mono(n.Name, f), mono(n.Param, x)), r, k)
	return w.with(n.Kids[1], entry{n.Name, w.close(f)})
}

func (w *walk) match(n tree.Node) ty.Type {
	t := w.visit(n.Kids[0])
	var first ty.Type
	for i := 1; i < len(n.Kids); i += 2 {
		w.want(n.Kids[i], t)
		body := w.with(n.Kids[i+1], w.bound(n.Kids[i], nil)...)
		if i == 1 {
			first = body
		} else {
			w.unify(body, first, n.Kids[i+1])
		}
	}
	return first
}

// bound adds the variables of a pattern to l.
func (w *walk) bound(at int, l []entry) []entry {
	n := w.t.Nodes[at]
	if n.Kind == 22 {
		return append(l, mono(n.Name, w.names[at]))
	}
	for _, k := range n.Kids {
		l = w.bound(k, l)
	}
	return l
}

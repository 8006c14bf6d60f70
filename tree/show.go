package tree

import "strconv"

// Show returns the text of a tree.
func Show(t Tree) string {
	if !Good(t) {
		return ""
	}
	w := writer{t: t}
	for _, d := range t.Types {
		w.decl(d)
	}
	w.node(0)
	return string(w.b)
}

type writer struct {
	t Tree
	b []byte
}

func (w *writer) decl(d Decl) {
	w.text("type ", d.Name, " = ")
	for i, c := range d.Cons {
		if i > 0 {
			w.text(" | ")
		}
		w.text(c.Name)
		for j, a := range c.Args {
			if j == 0 {
				w.text(" of ", a)
			} else {
				w.text(", ", a)
			}
		}
	}
	w.text(" in ")
}

// text writes pieces of text.
func (w *writer) text(l ...string) {
	for _, s := range l {
		w.b = append(w.b, s...)
	}
}

// rest writes pairs of a child and the text behind it.
func (w *writer) rest(kids []int, after ...string) {
	for i, k := range kids {
		w.node(k)
		w.text(after[i])
	}
}

func (w *writer) node(at int) {
	n := w.t.Nodes[at]
	if n.Kind >= function && n.Kind != input && n.Kind < anyPattern {
		w.compound(n)
		return
	}
	switch n.Kind {
	case number, numPattern:
		w.text(strconv.FormatInt(n.N, 10))
	case boolean, boolPattern:
		w.text(strconv.FormatBool(n.N == 1))
	case unit, unitPattern:
		w.text("()")
	case variable, varPattern:
		w.text(n.Name)
	case anyPattern:
		w.text("_")
	case input:
		w.text("read")
	case construct, conPattern:
		w.construct(n)
	}
}

func (w *writer) construct(n Node) {
	w.text(n.Name)
	for i, k := range n.Kids {
		if i == 0 {
			w.text(" (")
		} else {
			w.text(", ")
		}
		w.node(k)
	}
	if len(n.Kids) > 0 {
		w.text(")")
	}
}

// compound writes an expression that stands in parentheses.
func (w *writer) compound(n Node) {
	w.text("(")
	switch n.Kind {
	case function:
		w.text("fun ", n.Param, " -> ")
		w.rest(n.Kids, "")
	case apply:
		w.apply(n)
	case let:
		w.text("let ", n.Name, " = ")
		w.rest(n.Kids, " in ", "")
	case letRec:
		w.text("let rec ", n.Name, " ", n.Param, " = ")
		w.rest(n.Kids, " in ", "")
	case choice:
		w.text("if ")
		w.rest(n.Kids, " then ", " else ", "")
	case match:
		w.match(n)
	case sequence:
		w.rest(n.Kids, " ; ", "")
	case assign:
		w.rest(n.Kids, " := ", "")
	case operation:
		w.rest(n.Kids, " "+n.Name+" ", "")
	case reference:
		w.text("ref ")
		w.rest(n.Kids, "")
	case content:
		w.text("! ")
		w.rest(n.Kids, "")
	case output:
		w.text("print ")
		w.rest(n.Kids, "")
	case throw:
		w.text("raise ")
		w.rest(n.Kids, "")
	case attempt:
		w.text("try ")
		w.rest(n.Kids, " with "+n.Param+" -> ", " end")
	}
	w.text(")")
}

// apply encloses a constructor without arguments, which would otherwise take what follows as its own.
func (w *writer) apply(n Node) {
	f := w.t.Nodes[n.Kids[0]]
	if f.Kind == construct && len(f.Kids) == 0 {
		w.text("(", f.Name, ")")
	} else {
		w.node(n.Kids[0])
	}
	w.text(" ")
	w.node(n.Kids[1])
}

func (w *writer) match(n Node) {
	w.text("match ")
	w.rest(n.Kids[:1], " with ")
	for i := 1; i < len(n.Kids); i += 2 {
		if i > 1 {
			w.text(" | ")
		}
		w.rest(n.Kids[i:i+2], " -> ", "")
	}
	w.text(" end")
}

package run

import (
	"hindsight/api"
	"hindsight/tree"
	"hindsight/val"
)

// begin begins the evaluation of a node.
func (m *Machine) begin() {
	n := &m.t.Nodes[m.at]
	if stop(n.Kind) {
		m.stops++
	}
	switch n.Kind {
	case 1:
		m.ret(number(n.N))
	case 2:
		m.ret(val.Value{Kind: 2, N: n.N})
	case 3:
		m.ret(unit())
	case 4:
		if v, ok := Find(m.env, n.Name); ok {
			m.ret(v)
		} else {
			m.stuck()
		}
	case 6:
		m.ret(val.Value{Kind: 5, Node: m.at, Env: m.env})
	case 9:
		f := val.Value{Kind: 5, Node: m.at, Env: m.env}
		m.eval(n.Kids[1], bind(n.Name, f, m.env))
	case 18:
		m.take()
	default:
		m.descend(n)
	}
}

// descend evaluates the first child of a node that waits for it.
func (m *Machine) descend(n *tree.Node) {
	if len(n.Kids) == 0 {
		m.ret(val.Value{Kind: 4, Name: n.Name})
		return
	}
	m.waits = append(m.waits, wait{at: m.at, env: m.env, call: m.call})
	m.eval(n.Kids[0], m.env)
}

func (m *Machine) take() {
	if m.read == len(m.input) {
		m.over, m.begins = api.Starve, false
		return
	}
	m.read++
	m.ret(number(m.input[m.read-1]))
}

// resume passes the value to the innermost construct that waits.
func (m *Machine) resume() {
	w := &m.waits[len(m.waits)-1]
	if w.at < 0 {
		m.call = w.call
		m.pop()
		return
	}
	n := &m.t.Nodes[w.at]
	w.got = append(w.got, m.value)
	if len(w.got) < children(n) {
		m.eval(n.Kids[len(w.got)], w.env)
		return
	}
	at, env, got := w.at, w.env, w.got
	m.pop()
	m.finish(at, env, got)
}

// children returns how many children of a node are evaluated before the rest of its rule applies.
func children(n *tree.Node) int {
	switch n.Kind {
	case 5:
		return len(n.Kids)
	case 7, 13, 14:
		return 2
	}
	return 1
}

func (m *Machine) pop() {
	m.waits[len(m.waits)-1] = wait{}
	m.waits = m.waits[:len(m.waits)-1]
}

// finish applies the rest of a rule to the values of the children.
func (m *Machine) finish(at int, env *val.Env, got []val.Value) {
	n, v := &m.t.Nodes[at], got[0]
	switch n.Kind {
	case 5:
		m.ret(val.Value{Kind: 4, Name: n.Name, Args: got})
	case 7:
		m.apply(at, v, got[1])
	case 8:
		m.eval(n.Kids[1], bind(n.Name, v, env))
	case 10:
		m.choose(n, env, v)
	case 11:
		m.match(n, env, v)
	case 12:
		m.eval(n.Kids[1], env)
	case 14:
		m.operate(n.Name, v, got[1])
	case 20:
		m.ret(v)
	default:
		m.effect(n.Kind, got)
	}
}

// apply begins the body of a function that is applied at a node.
func (m *Machine) apply(at int, f, arg val.Value) {
	if f.Kind != 5 {
		m.stuck()
		return
	}
	n := &m.t.Nodes[f.Node]
	env := f.Env
	if n.Kind == 9 {
		env = bind(n.Name, f, env)
	}
	m.waits = append(m.waits, wait{at: -1, call: m.call})
	deep := 1
	if m.call != nil {
		deep += m.call.Depth
	}
	m.call = &Call{Node: at, Fun: f.Node, Depth: deep, Up: m.call}
	m.eval(n.Kids[0], bind(n.Param, arg, env))
}

func (m *Machine) choose(n *tree.Node, env *val.Env, v val.Value) {
	switch {
	case v.Kind != 2:
		m.stuck()
	case v.N == 1:
		m.eval(n.Kids[1], env)
	default:
		m.eval(n.Kids[2], env)
	}
}

func (m *Machine) match(n *tree.Node, env *val.Env, v val.Value) {
	for i := 1; i < len(n.Kids); i += 2 {
		if m.matches(n.Kids[i], &v) {
			m.eval(n.Kids[i+1], m.bound(n.Kids[i], &v, env))
			return
		}
	}
	m.stuck()
}

func (m *Machine) matches(at int, v *val.Value) bool {
	n := &m.t.Nodes[at]
	switch n.Kind {
	case 23:
		return v.Kind == 1 && v.N == n.N
	case 24:
		return v.Kind == 2 && v.N == n.N
	case 25:
		return v.Kind == 3
	case 26:
		if v.Kind != 4 || v.Name != n.Name || len(v.Args) != len(n.Kids) {
			return false
		}
		for i, k := range n.Kids {
			if !m.matches(k, &v.Args[i]) {
				return false
			}
		}
	}
	return true
}

// bound binds the variables of a pattern that matches.
func (m *Machine) bound(at int, v *val.Value, env *val.Env) *val.Env {
	n := &m.t.Nodes[at]
	if n.Kind == 22 {
		return bind(n.Name, *v, env)
	}
	for i, k := range n.Kids {
		env = m.bound(k, &v.Args[i], env)
	}
	return env
}

func (m *Machine) operate(name string, a, b val.Value) {
	v, ok := val.Op(name, a.N, b.N)
	if !ok || a.Kind != 1 || b.Kind != 1 {
		m.stuck()
		return
	}
	m.ret(v)
}

// effect applies the rules that reach beyond their values.
func (m *Machine) effect(kind int, got []val.Value) {
	v := got[0]
	needs := 1
	switch kind {
	case 13, 16:
		needs = 6
	case 15:
		needs = v.Kind
	}
	if v.Kind != needs {
		m.stuck()
		return
	}
	switch kind {
	case 13:
		m.cells[v.At], m.wrote = got[1], v.At
		m.ret(unit())
	case 15:
		m.wrote = len(m.cells)
		m.cells = append(m.cells, v)
		m.ret(val.Value{Kind: 6, At: m.wrote})
	case 16:
		m.ret(m.cells[v.At])
	case 17:
		m.out = append(m.out, v.N)
		m.ret(unit())
	case 19:
		m.raise(v.N)
	}
}

// raise continues in the handler of the innermost try that waits for its first child.
func (m *Machine) raise(n int64) {
	for len(m.waits) > 0 {
		w := m.waits[len(m.waits)-1]
		m.pop()
		if w.at < 0 || m.t.Nodes[w.at].Kind != 20 {
			continue
		}
		k := &m.t.Nodes[w.at]
		m.call = w.call
		m.eval(k.Kids[1], bind(k.Param, number(n), w.env))
		return
	}
	m.halt(n)
}

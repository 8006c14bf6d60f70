// Package run executes a tree by small steps: see DOC.md, chapter 10. Package source answers with
// it; package cursor looks closer at it than source lets one, to record a whole history.
package run

import (
	"hindsight/api"
	"hindsight/own"
	"hindsight/tree"
	"hindsight/val"
)

// Call is an active call, with the one that it was made in.
type Call struct {
	Node, Fun int
	Depth     int
	Up        *Call
}

// Machine is an execution. Its environments, values and calls are never changed once they are made.
type Machine struct {
	t     tree.Tree
	input []int64
	read  int
	out   []int64
	cells []val.Value
	wrote int // the cell that the last step has set, or -1

	begins bool // the next step begins node at in env; otherwise it passes value on
	at     int
	env    *val.Env
	value  val.Value
	waits  []wait
	call   *Call

	over  int
	err   int64
	steps int64
	stops int64
}

// wait is a construct that waits for a value.
type wait struct {
	at   int // its node, or -1 for a call whose body is being evaluated
	env  *val.Env
	got  []val.Value
	call *Call // the call that it stands in
}

// New begins the execution of a valid tree.
func New(t tree.Tree, input []int64) *Machine {
	return &Machine{t: own.Tree(t), input: append([]int64(nil), input...), begins: true, wrote: -1}
}

// Step performs a step.
func (m *Machine) Step() bool {
	if m.over != api.Going {
		return false
	}
	m.steps++
	m.wrote = -1
	if m.begins {
		m.begin()
	} else {
		m.resume()
	}
	if m.over == api.Going && !m.begins && len(m.waits) == 0 {
		m.over = api.Value
	}
	return true
}

// Stands returns the node of the stop at which the machine stands, if it stands at one.
func (m *Machine) Stands() (int, bool) {
	if m.over != api.Going || !m.begins {
		return 0, false
	}
	return m.at, stop(m.t.Nodes[m.at].Kind)
}

func stop(kind int) bool {
	switch kind {
	case 7, 8, 9, 10, 11, 13, 17, 18, 19, 20:
		return true
	}
	return false
}

// Env returns the environment of the node that begins.
func (m *Machine) Env() *val.Env { return m.env }

// Call returns the innermost active call, or nil.
func (m *Machine) Call() *Call { return m.call }

// Stops returns the number of stops that have begun.
func (m *Machine) Stops() int64 { return m.stops }

// Steps returns the number of steps.
func (m *Machine) Steps() int64 { return m.steps }

// Over returns what the execution has come to.
func (m *Machine) Over() int { return m.over }

// Error returns the number that was raised and not caught.
func (m *Machine) Error() int64 { return m.err }

// Read returns the number of inputs that were read.
func (m *Machine) Read() int { return m.read }

// Out returns the output; it is not to be changed.
func (m *Machine) Out() []int64 { return m.out }

// Cells returns the contents of the cells; they are not to be changed.
func (m *Machine) Cells() []val.Value { return m.cells }

// Wrote returns the cell that the last step has made or changed, or -1.
func (m *Machine) Wrote() int { return m.wrote }

// Value returns the value of the root.
func (m *Machine) Value() (val.Value, bool) {
	if m.over != api.Value {
		return val.Value{}, false
	}
	return m.value, true
}

// ret passes a value on.
func (m *Machine) ret(v val.Value) {
	m.begins, m.value = false, v
}

func (m *Machine) eval(at int, env *val.Env) {
	m.begins, m.at, m.env = true, at, env
}

// halt ends the execution with a number that nobody catches.
func (m *Machine) halt(n int64) {
	m.over, m.err, m.begins, m.waits = api.Raised, n, false, nil
}

// stuck ends an execution that the rules do not go on with: types exclude it.
func (m *Machine) stuck() { m.halt(0) }

func bind(name string, v val.Value, up *val.Env) *val.Env {
	return &val.Env{Name: name, V: v, Up: up}
}

// Find returns the value of the innermost binding of a name. Its arguments are not to be changed.
func Find(e *val.Env, name string) (val.Value, bool) {
	for ; e != nil; e = e.Up {
		if e.Name == name {
			return e.V, true
		}
	}
	return val.Value{}, false
}

func number(n int64) val.Value { return val.Value{Kind: 1, N: n} }

func unit() val.Value { return val.Value{Kind: 3} }

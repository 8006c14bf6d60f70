package tree

import (
	"slices"

	"hindsight/api"
	"hindsight/names"
)

const greatest = 4611686018427387903

// Good reports whether t is a valid tree.
func Good(t Tree) bool {
	if len(t.Nodes) < 1 || len(t.Nodes) > api.MaxNodes {
		return false
	}
	arity, ok := declared(t.Types)
	if !ok {
		return false
	}
	c := check{t: t, arity: arity}
	end, ok := c.walk(0, false, 1)
	return ok && end == len(t.Nodes)
}

// declared checks the declarations and returns the number of arguments of each constructor.
func declared(l []Decl) (map[string]int, bool) {
	if len(l) > api.MaxTypes {
		return nil, false
	}
	types := map[string]int{"int": 0, "bool": 0, "unit": 0}
	for i, d := range l {
		if _, twice := types[d.Name]; twice || !names.Plain(d.Name) {
			return nil, false
		}
		types[d.Name] = i
	}
	arity := map[string]int{}
	for _, d := range l {
		if len(d.Cons) < 1 || len(d.Cons) > api.MaxCons {
			return nil, false
		}
		for _, c := range d.Cons {
			if _, twice := arity[c.Name]; twice || !names.Con(c.Name) || !known(types, c.Args) {
				return nil, false
			}
			arity[c.Name] = len(c.Args)
		}
	}
	return arity, true
}

func known(types map[string]int, args []string) bool {
	if len(args) > 3 {
		return false
	}
	for _, a := range args {
		if _, ok := types[a]; !ok {
			return false
		}
	}
	return true
}

type check struct {
	t     Tree
	arity map[string]int
}

// walk checks the subtree that begins at a node and returns the index after it. The depth is checked
// on the way down, so that no tree makes the recursion deep.
func (c *check) walk(at int, pattern bool, deep int) (int, bool) {
	if at >= len(c.t.Nodes) || deep > api.MaxDepth {
		return 0, false
	}
	n := c.t.Nodes[at]
	if pattern != (n.Kind >= anyPattern) || !kids(n) || !c.fields(n) {
		return 0, false
	}
	next := at + 1
	for i, k := range n.Kids {
		if k != next {
			return 0, false
		}
		below := n.Kind == conPattern || n.Kind == match && i%2 == 1
		end, ok := c.walk(k, below, deep+1)
		if !ok || n.Kind == match && below && !c.distinct(k) {
			return 0, false
		}
		next = end
	}
	return next, true
}

// kids reports whether the kind is one and the number of children fits it.
func kids(n Node) bool {
	many := len(n.Kids)
	switch n.Kind {
	case construct, conPattern:
		return many <= 3
	case match:
		return many >= 3 && many%2 == 1
	case choice:
		return many == 3
	case apply, let, letRec, sequence, assign, operation, attempt:
		return many == 2
	case function, reference, content, output, throw:
		return many == 1
	case number, boolean, unit, variable, input, anyPattern, varPattern, numPattern, boolPattern, unitPattern:
		return many == 0
	}
	return false
}

// fields reports whether N, Name and Param are what the kind asks for.
func (c *check) fields(n Node) bool {
	switch n.Kind {
	case number, numPattern:
		return n.N >= 0 && n.N <= greatest && n.Name == "" && n.Param == ""
	case boolean, boolPattern:
		return (n.N == 0 || n.N == 1) && n.Name == "" && n.Param == ""
	}
	if n.N != 0 {
		return false
	}
	switch n.Kind {
	case variable, let, varPattern:
		return names.Plain(n.Name) && n.Param == ""
	case construct, conPattern:
		many, ok := c.arity[n.Name]
		return ok && many == len(n.Kids) && n.Param == ""
	case function, attempt:
		return n.Name == "" && names.Plain(n.Param)
	case letRec:
		return names.Plain(n.Name) && names.Plain(n.Param)
	case operation:
		return operator(n.Name) && n.Param == ""
	}
	return n.Name == "" && n.Param == ""
}

func operator(s string) bool {
	switch s {
	case "+", "-", "*", "<", "=":
		return true
	}
	return false
}

// distinct reports whether no variable occurs twice in the pattern at.
func (c *check) distinct(at int) bool {
	l := bound(c.t, at, nil)
	many := len(l)
	slices.Sort(l)
	return len(slices.Compact(l)) == many
}

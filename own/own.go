// Package own copies what is passed or answered, so that two holders of it share no memory (DOC.md, R4).
package own

import (
	"slices"

	"hindsight/tree"
	"hindsight/ty"
	"hindsight/val"
)

// Tree copies a tree.
func Tree(t tree.Tree) tree.Tree {
	c := tree.Tree{Nodes: slices.Clone(t.Nodes), Types: slices.Clone(t.Types)}
	for i := range c.Nodes {
		c.Nodes[i].Kids = slices.Clone(c.Nodes[i].Kids)
	}
	for i := range c.Types {
		c.Types[i].Cons = slices.Clone(c.Types[i].Cons)
		for j := range c.Types[i].Cons {
			c.Types[i].Cons[j].Args = slices.Clone(c.Types[i].Cons[j].Args)
		}
	}
	return c
}

// deepest is greater than the nesting of any type but one whose Args contain the type itself.
const deepest = 1 << 17

// Type copies a type. One that contains itself has no copy and is returned as it is.
func Type(t ty.Type) ty.Type {
	if c, ok := clone(t, 0); ok {
		return c
	}
	return t
}

func clone(t ty.Type, deep int) (ty.Type, bool) {
	if deep > deepest {
		return ty.Type{}, false
	}
	var args []ty.Type
	for _, a := range t.Args {
		c, ok := clone(a, deep+1)
		if !ok {
			return ty.Type{}, false
		}
		args = append(args, c)
	}
	t.Args = args
	return t, true
}

// mostParts bounds how much of a value is copied: a value may be much greater than the memory that
// it takes, because its parts may be the same.
const mostParts = 1 << 18

// Value copies a value but for its environments.
func Value(v val.Value) val.Value {
	left := mostParts
	return part(v, &left)
}

// Values copies a list of values.
func Values(l []val.Value) []val.Value {
	left := mostParts
	out := make([]val.Value, len(l))
	for i, v := range l {
		out[i] = part(v, &left)
	}
	return out
}

func part(v val.Value, left *int) val.Value {
	if len(v.Args) == 0 || len(v.Args) > *left {
		return v
	}
	*left -= len(v.Args)
	args := make([]val.Value, len(v.Args))
	for i, a := range v.Args {
		args[i] = part(a, left)
	}
	v.Args = args
	return v
}

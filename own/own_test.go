package own

import (
	"testing"

	"hindsight/tree"
	"hindsight/ty"
	"hindsight/val"
)

func TestTree(t *testing.T) {
	x := tree.Tree{
		Nodes: []tree.Node{{Kind: 15, Kids: []int{1}}, {Kind: 5, Name: "A", Kids: []int{2}}, {Kind: 1}},
		Types: []tree.Decl{{Name: "t", Cons: []tree.Con{{Name: "A", Args: []string{"int"}}}}},
	}
	c := Tree(x)
	x.Nodes[0].Kids[0], x.Nodes[2].N, x.Types[0].Cons[0].Args[0], x.Types[0].Name = 9, 5, "bool", "u"
	if tree.Show(c) != "type t = A of int in (ref A (0))" {
		t.Errorf("R4: the copy is %s", tree.Show(c))
	}
}

func TestType(t *testing.T) {
	x := ty.Type{Kind: 6, Args: []ty.Type{{Kind: 6, Args: []ty.Type{{Kind: 1}}}}}
	c := Type(x)
	x.Args[0].Args[0].Kind = 2
	if ty.Show(c) != "((int ref) ref)" {
		t.Errorf("R4: the copy is %s", ty.Show(c))
	}
	l := make([]ty.Type, 2)
	l[0].Args, l[1].Args = l, l
	Type(l[0])
}

func TestValue(t *testing.T) {
	x := val.Value{Kind: 4, Args: []val.Value{{Kind: 4, Args: []val.Value{{N: 1}}}}}
	c, l := Value(x), Values([]val.Value{x})
	x.Args[0].Args[0].N = 2
	if c.Args[0].Args[0].N != 1 || l[0].Args[0].Args[0].N != 1 {
		t.Error("R4: the copy shares memory")
	}
	for range 100 {
		x = val.Value{Kind: 4, Args: []val.Value{x, x}}
	}
	Value(x)
}

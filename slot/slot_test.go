package slot

import (
	"slices"
	"strconv"
	"strings"
	"testing"

	"hindsight/api"
	"hindsight/parse"
	"hindsight/tree"
)

func read(t *testing.T, s string) tree.Tree {
	t.Helper()
	x, err, at := parse.Parse(s)
	if err != api.OK {
		t.Fatalf("%q: %d at %d", s, err, at)
	}
	return x
}

func funs(x tree.Tree) string {
	var l []string
	for _, f := range Funs(x) {
		l = append(l, strconv.Itoa(f.Node)+" "+f.Self+"/"+f.Param+" ["+strings.Join(f.Caught, " ")+"] "+strconv.Itoa(f.Slots))
	}
	return strings.Join(l, "; ")
}

func TestFuns(t *testing.T) {
	for _, c := range []struct{ s, want string }{
		{"1", "-1 / [] 0"}, {"x", "-1 / [] 0"}, {"let x = 1 in let y = 2 in x", "-1 / [] 2"},
		{"fun x -> fun y -> x", "-1 / [] 0; 0 /x [] 1; 1 /y [x] 1"},
		{"fun x -> y z", "-1 / [] 0; 0 /x [y z] 1"},
		{"let rec f x = f x + a in f b", "-1 / [] 1; 0 f/x [a] 1"},
		{"let rec f x = fun x -> f x in 1", "-1 / [] 1; 0 f/x [] 1; 1 /x [f] 1"},
		{"let rec f f = f in f", "-1 / [] 1; 0 f/f [] 1"},
		{"fun x -> try let a = x in fun z -> a b with e -> match e with y -> y end end", "-1 / [] 0; 0 /x [b] 4; 4 /z [a b] 1"},
		{"fun x -> fun y -> fun z -> c b a x y", "-1 / [] 0; 0 /x [a b c] 1; 1 /y [a b c x] 1; 2 /z [a b c x y] 1"},
		{"(fun x -> x) (let x = 1 in fun y -> x) ", "-1 / [] 1; 1 /x [] 1; 5 /y [x] 1"},
		{"let x = x in fun y -> (let z = x in z) x", "-1 / [] 1; 2 /y [x] 2"},
	} {
		if got := funs(read(t, c.s)); got != c.want {
			t.Errorf("P13.1: Funs of %s: %s, want %s", c.s, got, c.want)
		}
	}
}

// places writes, for a node, its home and each name in scope with its place and its binder.
func places(t *testing.T, x tree.Tree, at int) string {
	s := strconv.Itoa(Home(x, at))
	for _, name := range Scope(x, at) {
		p, ok := Where(x, at, name)
		node, param, bound := Binder(x, at, name)
		if !ok || !bound {
			t.Errorf("P13.1: %s is in scope at %d without a place", name, at)
		}
		s += " " + name + ":" + strconv.Itoa(p.Kind) + "." + strconv.Itoa(p.N) + "@" + strconv.Itoa(node)
		if param {
			s += "p"
		}
	}
	return s
}

func TestPlaces(t *testing.T) {
	const pairs = "type p = P of int, int in "
	for _, c := range []struct {
		s    string
		at   int
		want string
	}{
		{"fun x -> fun y -> x", 2, "1 y:1.0@1p x:2.0@0p"}, {"fun x -> fun y -> y", 2, "1 y:1.0@1p"}, {"fun x -> fun y -> x", 1, "0 x:1.0@0p"},
		{"fun x -> fun y -> x", 0, "-1"},
		{"let x = 1 in let y = 2 in x", 4, "-1 y:1.1@2 x:1.0@0"}, {"let x = 1 in let y = 2 in x", 3, "-1 x:1.0@0"}, {"let x = 1 in x", 1, "-1"},
		{"let rec f x = f x in f 1", 1, "0 x:1.0@0p f:3.0@0"}, {"let rec f x = f x in f 1", 4, "-1 f:1.0@0"},
		{"let rec f f = f in f", 1, "0 f:1.0@0p"}, {"let rec f f = f in f", 2, "-1 f:1.0@0"},
		{"let rec f x = fun y -> f x in 1", 2, "1 y:1.0@1p x:2.1@0p f:2.0@0"}, {"let rec f x = fun y -> x in 1", 2, "1 y:1.0@1p x:2.0@0p"},
		{"try 1 with e -> e end", 2, "-1 e:1.0@0p"}, {"try 1 with e -> e end", 1, "-1"},
		{pairs + "match P (1, 2) with P (a, b) -> a | c -> 2 end", 7, "-1 b:1.1@6 a:1.0@5"},
		{pairs + "match P (1, 2) with P (a, b) -> a | c -> 2 end", 9, "-1 c:1.2@8"},
		{pairs + "match P (1, 2) with P (a, b) -> a | c -> 2 end", 5, "-1"},
		{pairs + "let x = 0 in match P (1, 2) with P (a, b) -> a | c -> 2 end", 7, "-1 x:1.0@0"},
		{"let x = 1 in let x = 2 in x", 4, "-1 x:1.1@2"}, {"let x = 1 in let x = x in x", 3, "-1 x:1.0@0"},
		{"let x = 1 in fun y -> let x = x in x", 4, "2 y:1.0@2p x:2.0@0"}, {"let x = 1 in fun y -> let x = x in x", 5, "2 x:1.1@3 y:1.0@2p"},
		{"let x = 1 in fun y -> fun x -> y", 4, "3 x:1.0@3p y:2.0@2p"},
		{"fun x -> let f = fun y -> x in fun x -> f", 5, "4 x:1.0@4p f:2.0@1"},
		{"let x = 1 in fun y -> let rec x z = y in y", 5, "2 x:1.1@3 y:1.0@2p"},
	} {
		if got := places(t, read(t, c.s), c.at); got != c.want {
			t.Errorf("P13.1: %s at %d: %s, want %s", c.s, c.at, got, c.want)
		}
	}
}

func TestNone(t *testing.T) {
	x := read(t, "let x = 1 in fun y -> y z")
	for _, c := range []struct {
		at    int
		name  string
		bound bool
	}{{4, "x", true}, {4, "z", false}, {4, "", false}, {1, "x", false}, {0, "x", false}, {99, "y", false}, {-1, "y", false}} {
		if p, ok := Where(x, c.at, c.name); ok || p != (Place{}) {
			t.Errorf("P13.1: Where of %q at %d is %v, %v", c.name, c.at, p, ok)
		}
		node, param, ok := Binder(x, c.at, c.name)
		if ok != c.bound || !ok && (node != 0 || param) {
			t.Errorf("P13.1: Binder of %q at %d is %d, %v, %v", c.name, c.at, node, param, ok)
		}
	}
	if slices.Contains(Scope(x, 4), "x") {
		t.Error("P13.1: a variable that is not captured is in scope")
	}
	for _, c := range []struct {
		x  tree.Tree
		at int
	}{{tree.Tree{}, 0}, {x, -1}, {x, 6}} {
		if Home(c.x, c.at) != -2 || Scope(c.x, c.at) != nil {
			t.Errorf("P13.1: node %d is none", c.at)
		}
	}
	if Funs(tree.Tree{}) != nil {
		t.Error("P13.1: Funs of a tree that is not valid")
	}
	if _, ok := Where(tree.Tree{}, 0, "x"); ok {
		t.Error("P13.1: Where of a tree that is not valid")
	}
}

// TestFree holds Caught against tree.Free, by which the document defines it.
func TestFree(t *testing.T) {
	x := read(t, "let rec f x = fun g -> (let rec h y = f (g (x (y (h (k z))))) in h) f in try f with x -> fun y -> x (fun f -> f x y) end")
	for _, f := range Funs(x)[1:] {
		n := x.Nodes[f.Node]
		want := tree.Free(x, f.Node)
		if n.Kind == 9 {
			want = slices.DeleteFunc(tree.Free(x, n.Kids[0]), func(s string) bool { return s == n.Name || s == n.Param })
		}
		if !slices.Equal(f.Caught, want) {
			t.Errorf("P13.1: Caught at %d is %v, want %v", f.Node, f.Caught, want)
		}
	}
}

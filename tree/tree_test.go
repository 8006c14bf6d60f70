package tree_test

import (
	"slices"
	"strings"
	"testing"

	. "hindsight/tree"
)

// e is a nested tree that tests are written in.
type e struct {
	kind        int
	n           int64
	name, param string
	kids        []e
}

func flat(x e, types ...Decl) Tree {
	t := Tree{Types: types}
	var add func(x e) int
	add = func(x e) int {
		at := len(t.Nodes)
		t.Nodes = append(t.Nodes, Node{Kind: x.kind, N: x.n, Name: x.name, Param: x.param})
		for _, k := range x.kids {
			i := add(k)
			t.Nodes[at].Kids = append(t.Nodes[at].Kids, i)
		}
		return at
	}
	add(x)
	return t
}

func num(n int64) e             { return e{kind: 1, n: n} }
func vr(s string) e             { return e{kind: 4, name: s} }
func op(s string, k ...e) e     { return e{kind: 14, name: s, kids: k} }
func kind(k int, kids ...e) e   { return e{kind: k, kids: kids} }
func con(s string, k ...e) e    { return e{kind: 5, name: s, kids: k} }
func conP(s string, k ...e) e   { return e{kind: 26, name: s, kids: k} }
func varP(s string) e           { return e{kind: 22, name: s} }
func fun(x string, b e) e       { return e{kind: 6, param: x, kids: []e{b}} }
func let(x string, a, b e) e    { return e{kind: 8, name: x, kids: []e{a, b}} }
func rec(f, x string, a, b e) e { return e{kind: 9, name: f, param: x, kids: []e{a, b}} }
func try(a e, x string, b e) e  { return e{kind: 20, param: x, kids: []e{a, b}} }
func one(name string) Decl      { return Decl{"t", []Con{{name, nil}}} }
func pair() Decl                { return Decl{"p", []Con{{"P", []string{"int", "p"}}, {"N", nil}}} }
func chain(k, many int, last e) e {
	for range many {
		last = kind(k, last)
	}
	return last
}

func TestShow(t *testing.T) {
	for _, c := range []struct {
		want string
		t    Tree
	}{
		{"(1 + (2 * 3))", flat(op("+", num(1), op("*", num(2), num(3))))},
		{"type t = A of int, t | B in type u = C in (match A (1, B) with A (x, _) -> true | B -> false end)",
			flat(kind(11, con("A", num(1), con("B")), conP("A", varP("x"), kind(21)), e{kind: 2, n: 1}, conP("B"), kind(2)),
				Decl{"t", []Con{{"A", []string{"int", "t"}}, {"B", nil}}}, Decl{"u", []Con{{"C", nil}}})},
		{"(fun x -> (f x))", flat(fun("x", kind(7, vr("f"), vr("x"))))},
		{"type t = C in ((C) ())", flat(kind(7, con("C"), kind(3)), one("C"))},
		{"type p = P of int, p | N in (P (1, N) ())", flat(kind(7, con("P", num(1), con("N")), kind(3)), pair())},
		{"(let x = 1 in (let rec f x = x in f))", flat(let("x", num(1), rec("f", "x", vr("x"), vr("f"))))},
		{"(if (1 < 2) then (1 = 2) else (1 - 2))", flat(kind(10, op("<", num(1), num(2)), op("=", num(1), num(2)), op("-", num(1), num(2))))},
		{"((! x) ; ((ref x) := read))", flat(kind(12, kind(16, vr("x")), kind(13, kind(15, vr("x")), kind(18))))},
		{"(try (print (raise 1)) with x -> x end)", flat(try(kind(17, kind(19, num(1))), "x", vr("x")))},
		{"(match 0 with 7 -> 1 | true -> 2 | false -> 3 | () -> 4 end)",
			flat(kind(11, num(0), e{kind: 23, n: 7}, num(1), e{kind: 24, n: 1}, num(2), kind(24), num(3), kind(25), num(4)))},
	} {
		if got := Show(c.t); got != c.want {
			t.Errorf("P3.2: Show is %s, want %s", got, c.want)
		}
	}
}

func TestGood(t *testing.T) {
	args := func(l ...string) Decl { return Decl{"t", []Con{{"A", l}}} }
	cons := func(n int) Decl {
		d := Decl{Name: "t"}
		for i := range n {
			d.Cons = append(d.Cons, Con{Name: "C" + string(rune('a'+i))})
		}
		return d
	}
	types := func(n int) (l []Decl) {
		for i := range n {
			l = append(l, Decl{string(rune('a' + i)), []Con{{string(rune('A' + i)), nil}}})
		}
		return l
	}
	var balanced func(n int) e
	balanced = func(n int) e {
		if n == 0 {
			return num(1)
		}
		return op("+", balanced((n-1)/2), balanced(n-1-(n-1)/2))
	}
	for _, c := range []struct {
		why  string
		want bool
		t    Tree
	}{
		{"no node", false, Tree{}},
		{"a number", true, flat(num(0))},
		{"the greatest number", true, flat(num(4611686018427387903))},
		{"too great a number", false, flat(num(4611686018427387904))},
		{"a number below 0", false, flat(num(-1))},
		{"a boolean that is 2", false, flat(e{kind: 2, n: 2})},
		{"unit with N", false, flat(e{kind: 3, n: 1})},
		{"a variable with N", false, flat(e{kind: 4, n: 1, name: "x"})},
		{"a number with a name", false, flat(e{kind: 1, name: "x"})},
		{"a number with a param", false, flat(e{kind: 1, param: "x"})},
		{"a variable with a param", false, flat(e{kind: 4, name: "x", param: "x"})},
		{"kind 0", false, flat(kind(0))},
		{"kind 27", false, flat(kind(27))},
		{"kind -1", false, flat(kind(-1))},
		{"a pattern as the root", false, flat(kind(21))},
		{"a pattern in a sum", false, flat(op("+", num(1), kind(21)))},
		{"an expression as a pattern", false, flat(kind(11, num(1), num(1), num(1)))},
		{"a pattern as a body", false, flat(kind(11, num(1), kind(21), kind(21)))},
		{"an expression in a pattern", false, flat(kind(11, con("A"), conP("A", num(1)), num(1)), args("int"))},
		{"a match without patterns", false, flat(kind(11, num(1)))},
		{"an even match", false, flat(kind(11, num(1), kind(21), num(1), kind(21)))},
		{"a match", true, flat(kind(11, num(1), kind(21), num(1)))},
		{"two kids of if", false, flat(kind(10, num(1), num(1)))},
		{"no kid of ref", false, flat(kind(15))},
		{"a kid of read", false, flat(kind(18, num(1)))},
		{"a bad operation", false, flat(op(">", num(1), num(2)))},
		{"a keyword", false, flat(vr("let"))},
		{"the name _", false, flat(vr("_"))},
		{"no name", false, flat(vr(""))},
		{"a name that is a constructor", false, flat(vr("X"))},
		{"the param _", false, flat(fun("_", num(1)))},
		{"the let _", false, flat(let("_", num(1), num(1)))},
		{"the pattern variable _", false, flat(kind(11, num(1), varP("_"), num(1)))},
		{"a fun with a name", false, flat(e{kind: 6, name: "f", param: "x", kids: []e{num(1)}})},
		{"let rec without param", false, flat(rec("f", "", num(1), num(1)))},
		{"let rec of equal names", true, flat(rec("f", "f", num(1), num(1)))},
		{"an odd name", true, flat(vr("x'é1"))},
		{"an undeclared constructor", false, flat(con("A"))},
		{"an undeclared constructor in a pattern", false, flat(kind(11, num(1), conP("A"), num(1)))},
		{"a constructor with too few", false, flat(con("A"), args("int"))},
		{"three arguments", true, flat(con("A", num(1), num(1), num(1)), args("int", "bool", "t"))},
		{"four arguments", false, flat(num(1), args("int", "int", "int", "int"))},
		{"an unknown argument", false, flat(num(1), args("u"))},
		{"an argument declared later", true, flat(num(1), args("u"), Decl{"u", []Con{{"U", nil}}})},
		{"a declaration without constructors", false, flat(num(1), Decl{"t", nil})},
		{"20 constructors", true, flat(num(1), cons(20))},
		{"21 constructors", false, flat(num(1), cons(21))},
		{"20 types", true, flat(num(1), types(20)...)},
		{"21 types", false, flat(num(1), types(21)...)},
		{"a type int", false, flat(num(1), Decl{"int", []Con{{"A", nil}}})},
		{"a type unit", false, flat(num(1), Decl{"unit", []Con{{"A", nil}}})},
		{"a type bool", false, flat(num(1), Decl{"bool", []Con{{"A", nil}}})},
		{"a type T", false, flat(num(1), Decl{"T", []Con{{"A", nil}}})},
		{"a type in", false, flat(num(1), Decl{"in", []Con{{"A", nil}}})},
		{"a constructor in lower case", false, flat(num(1), one("a"))},
		{"two types of a name", false, flat(num(1), one("A"), one("B"))},
		{"two constructors of a name", false, flat(num(1), one("A"), Decl{"u", []Con{{"A", nil}}})},
		{"a variable twice", false, flat(kind(11, con("A"), conP("A", varP("x"), varP("x")), num(1)), args("int", "int"))},
		{"a variable twice, nested", false, flat(kind(11, num(1), conP("P", varP("x"), conP("P", varP("x"), conP("N"))), num(1)), pair())},
		{"a variable in two patterns", true, flat(kind(11, num(1), varP("x"), num(1), varP("x"), num(1)))},
		{"60 levels", true, flat(chain(15, 59, num(1)))},
		{"61 levels", false, flat(chain(15, 60, num(1)))},
		{"999 nodes", true, flat(balanced(499))},
		{"1000 nodes", true, flat(kind(15, balanced(499)))},
		{"1001 nodes", false, flat(balanced(500))},
	} {
		if got := Good(c.t); got != c.want {
			t.Errorf("P3.1: Good of %s is %v", c.why, got)
		}
	}
}

func TestGoodOrder(t *testing.T) {
	good := func() Tree { return flat(op("+", op("*", num(1), num(2)), num(3))) }
	for i, spoil := range []func(t *Tree){
		func(t *Tree) { t.Nodes[0].Kids = []int{4, 1} },
		func(t *Tree) { t.Nodes[0].Kids = []int{1, 1} },
		func(t *Tree) { t.Nodes[1].Kids = []int{2, 0} },
		func(t *Tree) { t.Nodes[1].Kids = []int{2, 99} },
		func(t *Tree) { t.Nodes[1].Kids = []int{-1, 3} },
		func(t *Tree) { t.Nodes = append(t.Nodes, t.Nodes[4]) },
		func(t *Tree) { t.Nodes = t.Nodes[:4] },
		func(t *Tree) { t.Nodes[2].Kids = []int{3} },
	} {
		x := good()
		spoil(&x)
		if Good(x) || Show(x) != "" || Free(x, 0) != nil || Stops(x) != nil || Depth(x, 0) != 0 || Binds(x, 2) != nil {
			t.Errorf("P3.1: number %d is good", i)
		}
	}
	x := good()
	x.Nodes[0].From, x.Nodes[1].To = 99, -7
	if !Good(x) {
		t.Error("P3.1: From and To are examined")
	}
}

func TestFree(t *testing.T) {
	for _, c := range []struct {
		want string
		at   int
		t    Tree
	}{
		{"y", 0, flat(fun("x", kind(7, vr("x"), vr("y"))))},
		{"x y", 1, flat(fun("x", kind(7, vr("x"), vr("y"))))},
		{"x", 0, flat(let("x", vr("x"), vr("x")))},
		{"a", 0, flat(rec("f", "x", kind(7, vr("f"), vr("x")), kind(7, vr("f"), vr("a"))))},
		{"x", 0, flat(rec("f", "x", vr("f"), kind(7, vr("f"), vr("x"))))},
		{"x", 0, flat(try(vr("x"), "x", vr("x")))},
		{"", 0, flat(try(num(1), "x", vr("x")))},
		{"b x z", 0, flat(kind(11, vr("z"), varP("x"), vr("x"), kind(21), kind(7, vr("x"), vr("b"))))},
		{"", 2, flat(kind(11, vr("z"), varP("x"), vr("x")))},
		{"x", 3, flat(kind(11, vr("z"), varP("x"), vr("x")))},
		{"a b", 0, flat(op("+", vr("b"), op("+", vr("a"), vr("b"))))},
		{"", -1, flat(vr("x"))}, {"", 1, flat(vr("x"))},
	} {
		if got := strings.Join(Free(c.t, c.at), " "); got != c.want {
			t.Errorf("P3.2: Free of %s at %d is %s, want %s", Show(c.t), c.at, got, c.want)
		}
	}
}

func TestOthers(t *testing.T) {
	x := flat(kind(11, con("P", num(1), con("N")), conP("P", varP("b"), conP("P", varP("a"), kind(21))), num(1), varP("c"), kind(16, num(2))), pair())
	for at, want := range map[int]string{0: "", 4: "b a", 5: "b", 6: "a", 8: "", 10: "c", 11: "", -1: "", 13: ""} {
		if got := strings.Join(Binds(x, at), " "); got != want {
			t.Errorf("P3.2: Binds at %d is %q, want %q", at, got, want)
		}
	}
	for at, want := range map[int]int{0: 4, 1: 2, 2: 1, 4: 3, 6: 2, 11: 2, -1: 0, 13: 0} {
		if got := Depth(x, at); got != want {
			t.Errorf("P3.2: Depth at %d is %d, want %d", at, got, want)
		}
	}
	all := kind(12, kind(15, kind(16, num(1))), kind(12, op("+", kind(2), kind(3)), let("x", kind(7, vr("f"), vr("g")), rec("f", "x", kind(10, num(1), num(1), num(1)),
		kind(11, num(1), kind(21), kind(13, kind(17, kind(18)), try(kind(19, num(1)), "x", fun("x", num(1)))))))))
	if got := Stops(flat(all)); !slices.Equal(got, []int{8, 9, 12, 13, 17, 20, 21, 22, 23, 24}) {
		t.Errorf("P3.2: Stops is %v", got)
	}
	odd := Tree{Types: []Decl{{"", []Con{{"A", nil}, {"B", nil}}}, {"", []Con{{"C", nil}, {"B", nil}}}}}
	for _, c := range []struct {
		name string
		d, c int
		ok   bool
	}{{"A", 0, 0, true}, {"B", 0, 1, true}, {"C", 1, 0, true}, {"D", 0, 0, false}, {"", 0, 0, false}} {
		if d, n, ok := Of(odd, c.name); d != c.d || n != c.c || ok != c.ok {
			t.Errorf("P3.2: Of %s is %d, %d, %v", c.name, d, n, ok)
		}
	}
}

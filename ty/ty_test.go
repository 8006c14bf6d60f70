package ty

import (
	"slices"
	"strings"
	"testing"

	"hindsight/api"
)

var (
	intT  = Type{Kind: 1}
	boolT = Type{Kind: 2}
	unitT = Type{Kind: 3}
)

func v(n int) Type        { return Type{Kind: 7, Var: n} }
func fn(a, b Type) Type   { return Type{Kind: 5, Args: []Type{a, b}} }
func rf(a Type) Type      { return Type{Kind: 6, Args: []Type{a}} }
func named(s string) Type { return Type{Kind: 4, Name: s} }
func refs(n int, t Type) Type {
	for range n {
		t = rf(t)
	}
	return t
}

// wide has 2^n - 1 nodes, which share their lists.
func wide(n int, t Type) Type {
	for range n - 1 {
		t = fn(t, t)
	}
	return t
}

func cycle() Type {
	l := make([]Type, 2)
	l[0] = Type{Kind: 5, Args: l}
	l[1] = Type{Kind: 5, Args: l}
	return l[0]
}

func TestGoodAndSize(t *testing.T) {
	for i, c := range []struct {
		t    Type
		good bool
		size int
	}{
		{intT, true, 1}, {unitT, true, 1}, {fn(intT, v(1999)), true, 3}, {named("t"), true, 1},
		{Type{}, false, 1}, {Type{Kind: 8}, false, 1}, {Type{Kind: -1}, false, 1}, {v(2000), false, 1}, {v(-1), false, 1},
		{Type{Kind: 4}, false, 1}, {Type{Kind: 1, Name: "t"}, false, 1}, {Type{Kind: 1, Var: 1}, false, 1},
		{Type{Kind: 1, Args: []Type{intT}}, false, 2}, {Type{Kind: 5, Args: []Type{intT}}, false, 2}, {Type{Kind: 5}, false, 1},
		{Type{Kind: 6, Args: []Type{intT, intT}}, false, 3}, {Type{Kind: 7, Args: []Type{intT}}, false, 2}, {rf(v(3)), true, 2},
		{fn(intT, rf(Type{})), false, 4}, {refs(499, intT), true, 500}, {refs(500, intT), false, 501}, {refs(9999, intT), false, 501},
		{wide(8, intT), true, 255}, {wide(40, intT), false, 501}, {cycle(), false, 501}, {fn(intT, Type{Kind: 7, Name: "a"}), false, 3},
		{Type{Kind: 1, Args: []Type{}}, true, 1},
	} {
		if Good(c.t) != c.good || Size(c.t) != c.size {
			t.Errorf("P5.1: number %d: Good %v, Size %d", i, Good(c.t), Size(c.t))
		}
	}
}

func TestSame(t *testing.T) {
	odd := Type{Kind: 9, Name: "x", Var: -3, Args: []Type{intT}}
	other := odd
	other.Var = 1
	for i, c := range []struct {
		a, b Type
		want bool
	}{
		{intT, Type{Kind: 1, Args: []Type{}}, true}, {intT, boolT, false}, {fn(intT, v(1)), fn(intT, v(1)), true},
		{fn(intT, v(1)), fn(intT, v(2)), false}, {named("t"), named("u"), false}, {odd, odd, true}, {odd, other, false},
		{rf(intT), Type{Kind: 6, Args: []Type{intT, intT}}, false}, {refs(60000, intT), refs(60000, intT), true},
		{cycle(), intT, false},
	} {
		if Same(c.a, c.b) != c.want {
			t.Errorf("P5.1: number %d: Same is %v", i, !c.want)
		}
	}
	Same(cycle(), cycle())
}

func TestShowAndVars(t *testing.T) {
	long := v(0)
	for i := 1; i < 30; i++ {
		long = fn(long, v(i*7))
	}
	for _, c := range []struct {
		t    Type
		want string
		vars []int
	}{
		{intT, "int", nil}, {boolT, "bool", nil}, {unitT, "unit", nil}, {named("t"), "t", nil}, {v(9), "'a", []int{9}},
		{fn(v(9), fn(v(3), v(9))), "('a -> ('b -> 'a))", []int{9, 3}}, {rf(rf(v(0))), "(('a ref) ref)", []int{0}},
	} {
		if Show(c.t) != c.want || !slices.Equal(Vars(c.t), c.vars) {
			t.Errorf("P5.1: %s, %v, want %s", Show(c.t), Vars(c.t), c.want)
		}
	}
	if s := Show(long); !strings.Contains(s, "-> 'z) -> '27) -> '28)") || len(Vars(long)) != 30 {
		t.Errorf("P5.1: Show of 30 variables is %s", s)
	}
	if s := Show(refs(600, v(5))); s != strings.Repeat("(", 600)+"'a"+strings.Repeat(" ref)", 600) {
		t.Errorf("P5.1: Show of a great type is %s", s)
	}
	if l := Vars(refs(50000, v(5))); !slices.Equal(l, []int{5}) {
		t.Errorf("P5.1: Vars of a great type is %v", l)
	}
	Show(cycle())
	Vars(cycle())
	Show(Type{Kind: 5, Args: []Type{{}, {}, {}}})
}

func TestFresh(t *testing.T) {
	s := New()
	s.Unify(v(0), intT)
	for i := range 2000 {
		if x := s.Fresh(); !Same(x, v(i)) {
			t.Fatalf("P5.1: Fresh is %v at %d", x, i)
		}
	}
	if !Same(s.Fresh(), v(1999)) || !Same(s.Fresh(), v(1999)) {
		t.Error("P5.1: Fresh after variable 1999")
	}
}

func TestUnify(t *testing.T) {
	for i, c := range []struct {
		steps []Type // pairs; all but the last pair unify
		err   api.Errno
		ask   Type
		want  string
	}{
		{[]Type{fn(v(0), intT), fn(boolT, v(1))}, api.OK, fn(v(0), v(1)), "(bool -> int)"},
		{[]Type{intT, boolT}, api.ETYPE, intT, "int"},
		{[]Type{named("t"), named("u")}, api.ETYPE, intT, "int"},
		{[]Type{named("t"), named("t")}, api.OK, intT, "int"},
		{[]Type{v(3), v(3)}, api.OK, v(3), "'a"},
		{[]Type{v(3), rf(v(3))}, api.ETYPE, v(3), "'a"},
		{[]Type{v(3), rf(v(4)), v(4), v(3)}, api.ETYPE, v(3), "('a ref)"},
		{[]Type{v(3), v(5), fn(v(5), v(3)), fn(intT, boolT)}, api.ETYPE, v(5), "'a"},
		{[]Type{fn(v(1), v(1)), fn(intT, boolT)}, api.ETYPE, v(1), "'a"},
		{[]Type{v(1), v(0), v(0), intT}, api.OK, rf(v(1)), "(int ref)"},
		{[]Type{fn(v(1), rf(v(1))), fn(v(2), v(2))}, api.ETYPE, fn(v(1), v(2)), "('a -> 'b)"},
		{[]Type{Type{}, intT}, api.EARG, intT, "int"},
		{[]Type{intT, refs(500, intT)}, api.EARG, intT, "int"},
		{[]Type{boolT, refs(500, intT)}, api.EARG, intT, "int"},
		{[]Type{v(0), refs(499, intT)}, api.OK, v(0), Show(refs(499, intT))},
		{[]Type{v(0), refs(499, intT), rf(v(0)), intT}, api.ELIMIT, v(0), Show(refs(499, intT))},
		{[]Type{v(0), refs(499, intT), v(0), intT}, api.ETYPE, intT, "int"},
		{[]Type{v(0), refs(250, intT), v(1), refs(249, v(0))}, api.OK, v(1), Show(refs(499, intT))},
		{[]Type{v(0), refs(250, intT), v(1), refs(250, v(0))}, api.ELIMIT, v(1), "'a"},
		{[]Type{v(1), refs(250, v(0)), v(0), refs(250, intT)}, api.ELIMIT, v(0), "'a"},
		{[]Type{v(1), refs(250, v(0)), v(0), refs(249, intT)}, api.OK, v(1), Show(refs(499, intT))},
	} {
		s := New()
		for len(c.steps) > 2 {
			if err := s.Unify(c.steps[0], c.steps[1]); err != api.OK {
				t.Errorf("P5.1: number %d: %v on the way", i, err)
			}
			c.steps = c.steps[2:]
		}
		if err := s.Unify(c.steps[0], c.steps[1]); err != c.err {
			t.Errorf("P5.1: number %d: %v, want %v", i, err, c.err)
		}
		if got := Show(s.Apply(c.ask)); got != c.want {
			t.Errorf("P5.1: number %d: %s, want %s", i, got, c.want)
		}
	}
}

func TestGreaterStandsForSmaller(t *testing.T) {
	s := New()
	s.Unify(v(1), v(2))
	s.Unify(v(4), v(3))
	for n, want := range map[int]int{1: 1, 2: 1, 3: 3, 4: 3} {
		if x := s.Apply(v(n)); x.Var != want {
			t.Errorf("P5.1: variable %d stands for %d", n, x.Var)
		}
	}
}

func TestApart(t *testing.T) {
	s := New()
	arg := rf(intT)
	s.Unify(v(0), arg)
	arg.Args[0] = boolT
	a := s.Apply(v(0))
	a.Args[0] = unitT
	if got := Show(s.Apply(v(0))); got != "(int ref)" {
		t.Errorf("R4: the substitution shares memory: %s", got)
	}
	bad := Type{Kind: 5, Args: []Type{v(0)}}
	if !Same(s.Apply(bad), bad) {
		t.Error("P5.1: Apply changes a type that is not valid")
	}
}

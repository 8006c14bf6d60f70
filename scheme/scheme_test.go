package scheme

import (
	"slices"
	"testing"

	"hindsight/ty"
)

func v(n int) ty.Type         { return ty.Type{Kind: 7, Var: n} }
func fn(a, b ty.Type) ty.Type { return ty.Type{Kind: 5, Args: []ty.Type{a, b}} }

var intT = ty.Type{Kind: 1}

func big() ty.Type {
	t := intT
	for range 500 {
		t = ty.Type{Kind: 6, Args: []ty.Type{t}}
	}
	return t
}

func TestGood(t *testing.T) {
	for i, c := range []struct {
		c    Scheme
		want bool
	}{
		{Scheme{T: intT}, true}, {Scheme{}, false}, {Scheme{[]int{1, 2}, fn(v(2), v(1))}, true}, {Scheme{[]int{2, 1}, fn(v(2), v(1))}, false},
		{Scheme{[]int{1, 1}, v(1)}, false}, {Scheme{[]int{0}, v(1)}, false}, {Scheme{[]int{}, v(1)}, true}, {Scheme{T: big()}, false},
	} {
		if Good(c.c) != c.want {
			t.Errorf("P6.1: number %d: Good is %v", i, !c.want)
		}
	}
}

func TestMono(t *testing.T) {
	a := fn(v(1), intT)
	c := Mono(a)
	if len(c.All) != 0 || Show(c) != "('a -> int)" {
		t.Errorf("P6.1: Mono is %v", c)
	}
	a.Args[0] = intT
	if Show(c) != "('a -> int)" {
		t.Error("R4: Mono shares memory")
	}
	if ty.Size(Mono(big()).T) != 501 {
		t.Error("P6.1: Mono of a great type")
	}
	l := make([]ty.Type, 2)
	l[0] = ty.Type{Kind: 5, Args: l}
	l[1] = l[0]
	Mono(l[0])
}

func TestClose(t *testing.T) {
	s := ty.New()
	s.Unify(v(10), fn(v(3), v(4)))
	s.Unify(v(11), intT)
	for i, c := range []struct {
		t    ty.Type
		env  []Scheme
		all  []int
		want string
	}{
		{fn(v(0), v(0)), nil, []int{0}, "('a -> 'a)"},
		{fn(v(5), v(2)), nil, []int{2, 5}, "('a -> 'b)"},
		{v(10), nil, []int{3, 4}, "('a -> 'b)"},
		{v(11), nil, nil, "int"},
		{v(10), []Scheme{Mono(v(4))}, []int{3}, "('a -> 'b)"},
		{fn(v(3), v(6)), []Scheme{Mono(v(10))}, []int{6}, "('a -> 'b)"},
		{fn(v(3), v(6)), []Scheme{{[]int{6}, v(6)}}, []int{3, 6}, "('a -> 'b)"},
		{fn(v(3), v(6)), []Scheme{{[]int{10}, v(10)}}, []int{6}, "('a -> 'b)"},
		{fn(v(3), v(6)), []Scheme{{[]int{6}, v(6)}, Mono(v(6))}, []int{3}, "('a -> 'b)"},
		{v(10), []Scheme{{}}, nil, "'a"},
		{v(10), []Scheme{{[]int{1}, v(0)}}, nil, "'a"},
		{ty.Type{Kind: 7, Var: -1}, nil, nil, "'a"},
	} {
		got := Close(s, c.t, c.env)
		if !slices.Equal(got.All, c.all) || Show(got) != c.want {
			t.Errorf("P6.1: number %d: Close is %v", i, got)
		}
	}
}

func TestOpen(t *testing.T) {
	s := ty.New()
	c := Close(s, fn(v(0), fn(v(1), v(0))), nil)
	s.Fresh()
	if got := Open(s, c); !ty.Same(got, fn(v(1), fn(v(2), v(1)))) {
		t.Errorf("P6.1: Open is %v", got)
	}
	if got := Open(s, c); !ty.Same(got, fn(v(3), fn(v(4), v(3)))) {
		t.Errorf("P6.1: Open again is %v", got)
	}
	if got := Open(s, Scheme{[]int{7}, fn(v(7), v(8))}); !ty.Same(got, fn(v(5), v(8))) {
		t.Errorf("P6.1: Open is %v", got)
	}
	s.Unify(v(8), intT)
	s.Unify(v(7), intT)
	if got := Open(s, Scheme{[]int{7}, fn(v(7), v(8))}); !ty.Same(got, fn(v(6), intT)) {
		t.Errorf("P6.1: Open does not apply the substitution: %v", got)
	}
	bad := Scheme{[]int{3}, v(8)}
	if got := Open(s, bad); !ty.Same(got, v(8)) {
		t.Errorf("P6.1: Open of a scheme that is not valid is %v", got)
	}
	if got := s.Fresh(); got.Var != 7 {
		t.Errorf("P6.1: Open has used variable %d", got.Var-1)
	}
}

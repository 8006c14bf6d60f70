package val

import (
	"math"
	"slices"
	"strings"
	"testing"

	"hindsight/ty"
)

const top, bottom = 4611686018427387903, -4611686018427387904

func TestWrapAndOp(t *testing.T) {
	for n, want := range map[int64]int64{0: 0, -1: -1, top: top, top + 1: bottom, bottom: bottom, bottom - 1: top, math.MaxInt64: -1, math.MinInt64: 0} {
		if got := Wrap(n); got != want {
			t.Errorf("P9.1: Wrap(%d) is %d", n, got)
		}
	}
	for _, c := range []struct {
		name string
		a, b int64
		kind int
		n    int64
		ok   bool
	}{
		{"+", 1, 2, 1, 3, true}, {"+", top, 1, 1, bottom, true}, {"-", bottom, 1, 1, top, true}, {"*", top, 2, 1, -2, true},
		{"*", math.MaxInt64, math.MaxInt64, 1, 1, true}, {"<", 1, 2, 2, 1, true}, {"<", 2, 2, 2, 0, true}, {"=", 2, 2, 2, 1, true},
		{"=", 1, 2, 2, 0, true}, {"/", 1, 2, 0, 0, false}, {"", 1, 2, 0, 0, false}, {"<", math.MinInt64, 0, 2, 1, true},
	} {
		v, ok := Op(c.name, c.a, c.b)
		if !Same(v, Value{Kind: c.kind, N: c.n}) || ok != c.ok {
			t.Errorf("P9.1: %d %s %d is %v, %v", c.a, c.name, c.b, v, ok)
		}
	}
}

func TestEnv(t *testing.T) {
	e := &Env{"x", Value{N: 1}, &Env{"y", Value{N: 2}, &Env{"x", Value{N: 3}, &Env{"z", Value{N: 4}, nil}}}}
	for name, want := range map[string]int64{"x": 1, "y": 2, "z": 4, "w": 0} {
		if v, ok := Find(e, name); v.N != want || ok != (want != 0) {
			t.Errorf("P9.1: Find %s is %d, %v", name, v.N, ok)
		}
	}
	e.V.Args = []Value{{N: 5}}
	v, _ := Find(e, "x")
	v.Args[0].N = 6
	if e.V.Args[0].N != 5 {
		t.Error("R4: Find shares memory")
	}
	if l := Names(e); !slices.Equal(l, []string{"x", "y", "z"}) {
		t.Errorf("P9.1: Names is %v", l)
	}
	if _, ok := Find(nil, "x"); ok || len(Names(nil)) != 0 {
		t.Error("P9.1: the empty environment")
	}
	for size := 1; size < 9; size++ {
		last := &Env{Name: "0"}
		ring := last
		for i := 1; i < size; i++ {
			ring = &Env{Name: strings.Repeat("i", i), Up: ring}
		}
		last.Up = ring
		if l := Names(&Env{"a", Value{}, &Env{"b", Value{}, ring}}); len(l) != size+2 {
			t.Errorf("R1: Names of a ring of %d is %v", size, l)
		}
		if _, ok := Find(ring, "none"); ok {
			t.Error("R1: Find in a ring")
		}
	}
}

func TestSame(t *testing.T) {
	a := Value{Kind: 4, N: 1, Name: "A", Node: 2, At: 3, Args: []Value{{Kind: 1}}, Env: &Env{}}
	if b := a; !Same(a, b) {
		t.Error("P9.1: Same")
	}
	for i, f := range []func(v *Value){
		func(v *Value) { v.Kind++ }, func(v *Value) { v.N++ }, func(v *Value) { v.Name = "B" }, func(v *Value) { v.Node++ },
		func(v *Value) { v.At++ }, func(v *Value) { v.Args = nil }, func(v *Value) { v.Args = []Value{{Kind: 2}} },
	} {
		b := a
		f(&b)
		if Same(a, b) {
			t.Errorf("P9.1: Same in spite of number %d", i)
		}
	}
	b := a
	b.Env = nil
	if !Same(a, b) {
		t.Error("P9.1: Env is compared")
	}
	l := make([]Value, 2)
	l[0].Args, l[1].Args = l, l
	Same(l[0], l[1])
}

func n(i int64) Value { return Value{Kind: 1, N: i} }

func con(name string, l ...Value) Value { return Value{Kind: 4, Name: name, Args: l} }

func TestRender(t *testing.T) {
	in, bo, un := ty.Type{Kind: 1}, ty.Type{Kind: 2}, ty.Type{Kind: 3}
	tt, fn, po := ty.Type{Kind: 4, Name: "t"}, ty.Type{Kind: 5, Args: []ty.Type{in, in}}, ty.Type{Kind: 7}
	ref := func(t ty.Type) ty.Type { return ty.Type{Kind: 6, Args: []ty.Type{t}} }
	cell := func(at int) Value { return Value{Kind: 6, At: at} }
	cells := []Value{n(7), cell(0), {Kind: 2, N: 1}, {Kind: 5}}
	cons := []Arg{{"C", []string{"int", "t"}}, {"N", nil}, {"U", []string{"unit", "bool"}}, {"C", []string{"bool"}}}
	deep := func(many int) Value {
		v := con("N")
		for range many {
			v = con("C", n(1), v)
		}
		return v
	}
	text := func(many int, last string) string {
		return strings.Repeat("C (1, ", many) + last + strings.Repeat(")", many)
	}
	short := con("D", con("C", n(1)))
	for range 60 {
		short = con("C", n(1), short)
	}
	for i, c := range []struct {
		v    Value
		t    ty.Type
		want string
	}{
		{n(-5), in, "-5"}, {n(bottom), in, "-4611686018427387904"}, {Value{Kind: 2, N: 1}, bo, "true"}, {Value{Kind: 2}, bo, "false"},
		{Value{Kind: 2, N: 2}, bo, "false"}, {Value{Kind: 3}, un, "()"}, {Value{Kind: 5}, fn, "<fun>"}, {Value{Kind: 5}, po, "<poly>"},
		{n(1), po, "<poly>"}, {Value{}, po, "<poly>"}, {n(1), bo, "?"}, {n(1), tt, "?"}, {con("N"), in, "?"}, {Value{}, ty.Type{}, "?"},
		{Value{Kind: 7}, ty.Type{Kind: 7}, "<poly>"}, {Value{Kind: 8}, ty.Type{Kind: 8}, "?"},
		{con("N"), tt, "N"}, {con("C", n(1), con("N")), tt, "C (1, N)"}, {con("C", con("N"), n(1)), tt, "C (?, ?)"},
		{con("U", Value{Kind: 3}, Value{Kind: 2}), tt, "U ((), false)"}, {con("N", n(1)), tt, "N (?)"}, {con("C", n(1)), tt, "C (1)"},
		{con("D", n(1), n(2)), tt, "D (?, ?)"}, {con("D"), tt, "D"}, {con("C", n(1), con("N"), n(2)), tt, "C (1, N, ?)"},
		{cell(0), ref(in), "ref 7"}, {cell(1), ref(ref(in)), "ref ref 7"}, {cell(1), ref(in), "ref ?"}, {cell(2), ref(bo), "ref true"},
		{cell(4), ref(in), "ref ?"}, {cell(-1), ref(in), "ref ?"}, {cell(0), ty.Type{Kind: 6}, "ref ?"},
		{cell(0), ty.Type{Kind: 6, Args: []ty.Type{in, in}}, "ref ?"}, {cell(3), ref(po), "ref <poly>"}, {cell(3), ref(fn), "ref <fun>"},
		{deep(49), tt, text(49, "N")}, {deep(50), tt, strings.ReplaceAll(text(50, ".."), "C (1, ..", "C (.., ..")},
		{deep(5000), tt, strings.ReplaceAll(text(50, ".."), "C (1, ..", "C (.., ..")},
		{short, tt, strings.ReplaceAll(text(50, ".."), "C (1, ..", "C (.., ..")},
	} {
		if got := Render(c.v, c.t, cells, cons); got != c.want {
			t.Errorf("P9.2: number %d: %s, want %s", i, got, c.want)
		}
	}
	if got := Render(con("P", n(1)), tt, nil, []Arg{{"P", []string{"x"}}}); got != "P (?)" {
		t.Errorf("P9.2: %s", got)
	}
	odd := con("D", n(1))
	for range 49 {
		odd = con("C", n(1), odd)
	}
	if got := Render(odd, tt, nil, cons); got != text(49, "D (?)") {
		t.Errorf("P9.2: an argument without a type at the bottom: %s", got)
	}
	c50 := []Value{n(5)}
	rt := in
	for i := range 50 {
		c50 = append(c50, Value{Kind: 6, At: i})
		rt = ref(rt)
	}
	if got := Render(c50[50], rt, c50, nil); got != strings.Repeat("ref ", 50)+".." {
		t.Errorf("P9.2: %s", got)
	}
	c50 = c50[1:]
	c50[0].At = 99
	if got := Render(c50[48], rt, c50, nil); got != strings.Repeat("ref ", 50)+".." && !strings.HasSuffix(got, "ref ?") {
		t.Errorf("P9.2: %s", got)
	}
}

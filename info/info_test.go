package info

import (
	"bytes"
	"slices"
	"strings"
	"testing"

	"hindsight/api"
)

func v(from, to int, name string) Var { return Var{from, to, name, 1, 0, "int"} }

func sample() Table {
	return Table{[]Stop{{2, 5, 1, 1}, {300, 0, 7, 9}, {301, 1, 1, 2}},
		[]Var{{2, 5, "x", 1, 0, "int"}, {300, 400, "b", 2, 200, ""}, {5, 301, "x", 3, 65535, "'a"}, {300, 301, "a", 1, 1, "t"}}}
}

func TestGood(t *testing.T) {
	const top = 1<<31 - 1
	for i, c := range []struct {
		t    Table
		want bool
	}{
		{Table{}, true}, {sample(), true},
		{Table{Stops: []Stop{{0, 0, 1, 1}, {top, top, top, top}}}, true}, {Table{Stops: []Stop{{1, 0, 1, 1}, {1, 1, 1, 1}}}, false},
		{Table{Stops: []Stop{{2, 0, 1, 1}, {1, 1, 1, 1}}}, false}, {Table{Stops: []Stop{{-1, 0, 1, 1}}}, false}, {Table{Stops: []Stop{{0, -1, 1, 1}}}, false},
		{Table{Stops: []Stop{{0, 0, 0, 1}}}, false}, {Table{Stops: []Stop{{0, 0, 1, 0}}}, false}, {Table{Stops: []Stop{{0, 0, 1, top + 1}}}, false},
		{Table{Stops: []Stop{{top + 1, 0, 1, 1}}}, false},
		{Table{Vars: []Var{v(0, top, "x")}}, true}, {Table{Vars: []Var{v(3, 3, "x")}}, false}, {Table{Vars: []Var{v(4, 3, "x")}}, false},
		{Table{Vars: []Var{v(-1, 3, "x")}}, false}, {Table{Vars: []Var{v(0, top+1, "x")}}, false}, {Table{Vars: []Var{v(1, 3, "")}}, false},
		{Table{Vars: []Var{v(1, 3, strings.Repeat("x", 4000))}}, true}, {Table{Vars: []Var{v(1, 3, strings.Repeat("x", 4001))}}, false},
		{Table{Vars: []Var{{1, 3, "x", 0, 0, ""}}}, false}, {Table{Vars: []Var{{1, 3, "x", 4, 0, ""}}}, false}, {Table{Vars: []Var{{1, 3, "x", 3, -1, ""}}}, false},
		{Table{Vars: []Var{{1, 3, "x", 3, 65536, ""}}}, false}, {Table{Vars: []Var{{1, 3, "x", 3, 0, strings.Repeat("t", 4000001)}}}, false},
		{Table{Vars: []Var{{1, 3, "x", 3, 0, strings.Repeat("t", 4000000)}}}, true},
		{Table{Vars: []Var{v(1, 3, "x"), v(3, 5, "x")}}, true}, {Table{Vars: []Var{v(3, 5, "x"), v(1, 3, "x")}}, true}, {Table{Vars: []Var{v(3, 5, "x"), v(1, 4, "x")}}, false},
		{Table{Vars: []Var{v(3, 5, "x"), v(3, 5, "y")}}, true}, {Table{Vars: []Var{v(1, 9, "x"), v(2, 3, "x"), v(4, 5, "y")}}, false},
		{Table{Stops: make([]Stop, 10001)}, false}, {Table{Vars: many(10000)}, true}, {Table{Vars: many(10001)}, false},
	} {
		if Good(c.t) != c.want {
			t.Errorf("P16.1: number %d: Good is %v", i, !c.want)
		}
		if b := Put(c.t); !c.want && b != nil {
			t.Errorf("P16.1: number %d: Put returns bytes", i)
		}
	}
	stops := Table{}
	for i := range 10000 {
		stops.Stops = append(stops.Stops, Stop{i, 0, 1, 1})
	}
	if !Good(stops) {
		t.Error("P16.1: 10,000 stops")
	}
}

func many(n int) (l []Var) {
	for i := range n {
		l = append(l, v(i, i+1, "x"))
	}
	return l
}

func TestPutAndGet(t *testing.T) {
	x := sample()
	b := Put(x)
	want := []byte{3, 2, 5, 1, 1, 172, 2, 0, 7, 9, 173, 2, 1, 1, 2, 4, 2, 5, 1, 'x', 1, 0, 3, 'i', 'n', 't', 172, 2, 144, 3, 1, 'b', 2, 200, 1, 0,
		5, 173, 2, 1, 'x', 3, 255, 255, 3, 2, '\'', 'a', 172, 2, 173, 2, 1, 'a', 1, 1, 1, 't'}
	if !bytes.Equal(b, want) {
		t.Errorf("P16.1: Put is %v", b)
	}
	y, err := Get(b)
	if err != api.OK || !slices.Equal(x.Stops, y.Stops) || !slices.Equal(x.Vars, y.Vars) {
		t.Errorf("P16.1: Get is %v, %d", y, err)
	}
	if e, err := Get([]byte{0, 0}); err != api.OK || len(e.Stops)+len(e.Vars) != 0 {
		t.Errorf("P16.1: Get of the empty table: %d", err)
	}
	for cut := range b {
		if _, err := Get(b[:cut]); err != api.EFORM {
			t.Errorf("P16.1: Get of %d bytes: %d", cut, err)
		}
	}
	for i, bad := range [][]byte{
		append(slices.Clone(b), 0), {1, 0, 0, 0, 1, 0}, {128, 0, 0}, {2, 1, 0, 1, 1, 1, 0, 1, 1, 0}, {0, 1, 1, 2, 0, 1, 0, 0}, {255, 255, 255, 255, 255, 255, 255, 255, 255, 1, 0},
		{0, 1, 1, 2, 5, 'x', 1, 0, 0}, {0, 145, 78, 0}, {1, 0, 255, 255, 255, 255, 8, 1, 1, 0},
	} {
		if y, err := Get(bad); err != api.EFORM || y.Stops != nil || y.Vars != nil {
			t.Errorf("P16.1: number %d: Get returns %d", i, err)
		}
	}
}

func TestQuestions(t *testing.T) {
	x := sample()
	for pc, want := range map[int]Stop{2: x.Stops[0], 300: x.Stops[1], 301: x.Stops[2], 3: {}, 0: {}, 999: {}, -1: {}} {
		if s, ok := At(x, pc); s != want || ok != (want.Line != 0) {
			t.Errorf("P16.1: At %d is %v, %v", pc, s, ok)
		}
	}
	for pc, want := range map[int]string{1: "", 2: "x1", 4: "x1", 5: "x3", 299: "x3", 300: "a1 b2 x3", 301: "b2", 399: "b2", 400: ""} {
		var l []string
		for _, v := range Names(x, pc) {
			l = append(l, v.Name+string(rune('0'+v.Kind)))
		}
		if got := strings.Join(l, " "); got != want {
			t.Errorf("P16.1: Names at %d is %s", pc, got)
		}
	}
	for line, want := range map[int][]int{1: {2, 301}, 7: {300}, 2: nil, 0: nil} {
		if got := OnLine(x, line); !slices.Equal(got, want) {
			t.Errorf("P16.1: OnLine %d is %v", line, got)
		}
	}
	if len(Names(Table{Vars: []Var{v(2, 5, "x")}}, 5)) != 0 {
		t.Error("P16.1: a variable is valid for To")
	}
}

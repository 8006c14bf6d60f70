package cover

import (
	"strings"
	"testing"

	"hindsight/api"
	"hindsight/parse"
	"hindsight/tree"
)

func read(t *testing.T, s string) tree.Tree {
	t.Helper()
	x, err, at := parse.Parse(s)
	if err != api.OK {
		t.Fatalf("%q: %d at %d", s, err, at)
	}
	return x
}

const types = "type l = N | C of int, l type b = L | M of b, bool, b in "

// patterns returns the tree of a match with these patterns, and their nodes.
func patterns(t *testing.T, l ...string) (tree.Tree, []int) {
	t.Helper()
	x := read(t, strings.ReplaceAll(types, " type b", " in type b")+"match 0 with "+strings.Join(l, " -> 0 | ")+" -> 0 end")
	var at []int
	for i := 1; i < len(x.Nodes[0].Kids); i += 2 {
		at = append(at, x.Nodes[0].Kids[i])
	}
	return x, at
}

func TestAllAndUseful(t *testing.T) {
	for _, c := range []struct {
		l      string
		all    bool
		useful bool // of the last with respect to the others
	}{
		{"true;_", true, true}, {"_;true", true, false}, {"true", false, true}, {"true;false", true, true}, {"true;true", false, false},
		{"true;false;x", true, false}, {"()", true, true}, {"();_", true, false}, {"1;2", false, true}, {"1;1", false, false}, {"1;x", true, true},
		{"x;1", true, false}, {"N", false, true}, {"N;C (_, _)", true, true}, {"N;C (1, _)", false, true}, {"N;C (1, _);C (x, N)", false, true},
		{"N;C (1, _);C (x, N);C (_, C (_, _))", true, true}, {"C (1, _);C (_, N);C (1, N)", false, false},
		{"C (_, N);C (_, C (_, _));N;_", true, false}, {"L;M (_, true, _);M (L, false, _);M (_, _, L)", false, true},
		{"L;M (_, true, _);M (L, false, _);M (_, _, L);M (M (_, _, _), false, M (_, _, _))", true, true},
		{"L;M (_, true, _);M (_, false, x);M (L, _, L)", true, false}, {"M (L, true, L);M (_, _, L)", false, true},
	} {
		x, at := patterns(t, strings.Split(c.l, ";")...)
		var rows [][]int
		for _, p := range at {
			rows = append(rows, []int{p})
		}
		if got := All(x, rows); got != c.all {
			t.Errorf("P8.1: All of %s is %v", c.l, got)
		}
		last := len(rows) - 1
		if got := Useful(x, rows[:last], rows[last]); got != c.useful {
			t.Errorf("P8.1: Useful of %s is %v", c.l, got)
		}
	}
}

func TestRows(t *testing.T) {
	x, p := patterns(t, "true", "false", "_", "N", "C (_, x)", "()")
	tr, fa, any, n, c, un := p[0], p[1], p[2], p[3], p[4], p[5]
	for i, k := range []struct {
		rows [][]int
		row  []int
		want bool
	}{
		{[][]int{{tr, n}, {fa, c}}, []int{tr, c}, true}, {[][]int{{tr, any}, {any, n}}, []int{fa, c}, true},
		{[][]int{{tr, any}, {any, n}, {fa, c}}, []int{any, any}, false}, {[][]int{{tr, n}, {fa, n}}, []int{any, n}, false},
		{[][]int{{any, any}}, []int{un, tr}, false}, {nil, []int{tr}, true}, {nil, nil, true}, {[][]int{{}}, nil, false},
		{[][]int{{tr}}, []int{tr, n}, false}, {[][]int{{0}}, []int{tr}, false}, {[][]int{{-1}}, []int{tr}, false}, {nil, []int{-1}, false},
		{nil, []int{999}, false},
	} {
		if got := Useful(x, k.rows, k.row); got != k.want {
			t.Errorf("P8.1: number %d: Useful is %v", i, got)
		}
	}
	if All(x, nil) || !All(x, [][]int{{}, {}}) || !All(x, [][]int{{tr, any}, {fa, any}}) || All(x, [][]int{{tr, any}, {fa, n}}) || !All(x, [][]int{{any}}) {
		t.Error("P8.1: All")
	}
	Useful(x, [][]int{{tr, n}, {n, tr}, {un, un}}, []int{any, any})
	if Useful(tree.Tree{}, nil, nil) || All(tree.Tree{}, [][]int{{1}}) {
		t.Error("P8.1: a tree that is not valid")
	}
}

func TestCheck(t *testing.T) {
	for _, c := range []struct {
		s   string
		err api.Errno
		at  int
	}{
		{"1", api.OK, 0}, {"match true with true -> 1 | _ -> 2 end", api.OK, 0}, {"match true with _ -> 1 | true -> 2 end", api.ECOVER, 4},
		{"match true with true -> 1 end", api.ECOVER, 0}, {"match 1 with 1 -> 2 | 1 -> 3 end", api.ECOVER, 4},
		{"match match 1 with 2 -> true end with true -> 1 end", api.ECOVER, 0},
		{"match match 1 with 2 -> true end with _ -> 1 end", api.ECOVER, 1},
		{"fun x -> match x with x -> match x with () -> () end end", api.OK, 0},
		{"type l = N | C of int, l in match N with N -> 1 | C (1, x) -> 2 | C (_, _) -> 3 | C (2, _) -> 4 end", api.ECOVER, 12},
		{"type t = T of t in fun x -> match x with T (T (x)) -> 1 end", api.OK, 0},
	} {
		if err, at := Check(read(t, c.s)); err != c.err || at != c.at {
			t.Errorf("P8.1: Check of %s is %d, %d", c.s, err, at)
		}
	}
	if err, at := Check(tree.Tree{}); err != api.EARG || at != 0 {
		t.Errorf("P8.1: Check of a tree that is not valid is %d, %d", err, at)
	}
}

// TestSearchEnds gives searches that would take very many steps.
func TestSearchEnds(t *testing.T) {
	x, p := patterns(t, "true", "false", "_")
	for _, step := range []int{1, 7, 13} {
		var rows [][]int
		for i := range 40 {
			row := make([]int, 40)
			for j := range row {
				row[j] = p[2]
			}
			row[i], row[(i+step)%40], row[(i*step+3)%40] = p[0], p[1], p[0]
			rows = append(rows, row)
		}
		All(x, rows)
	}
}

package cover

import (
	"strings"
	"testing"

	"hindsight/api"
	"hindsight/parse"
	"hindsight/tree"
)

// value is a value of the types below.
type value struct {
	kind int // of the pattern that matches it alone
	n    int64
	name string
	args []value
}

// values returns values of a type that are nested up to a depth: enough to tell all patterns that are
// nested less deeply apart.
func values(typ string, deep int) []value {
	switch typ {
	case "int":
		return []value{{kind: 23}, {kind: 23, n: 1}, {kind: 23, n: 2}}
	case "bool":
		return []value{{kind: 24}, {kind: 24, n: 1}}
	case "unit":
		return []value{{kind: 25}}
	}
	l := []value{{kind: 26, name: "N"}}
	if deep > 0 {
		for _, a := range values("int", 0) {
			for _, b := range values("l", deep-1) {
				l = append(l, value{26, 0, "C", []value{a, b}})
			}
		}
		for _, a := range values("bool", 0) {
			for _, b := range values("unit", 0) {
				l = append(l, value{26, 0, "D", []value{a, b}})
			}
		}
	}
	return l
}

func matches(t tree.Tree, at int, v value) bool {
	n := t.Nodes[at]
	if n.Kind < 23 {
		return true
	}
	if n.Kind != v.kind || n.N != v.n || n.Name != v.name {
		return false
	}
	for i, k := range n.Kids {
		if !matches(t, k, v.args[i]) {
			return false
		}
	}
	return true
}

// TestBrute holds random patterns of two columns against all values.
func TestBrute(t *testing.T) {
	state := uint64(5)
	below := func(n int) int {
		state = state*6364136223846793005 + 1442695040888963407
		return int(state >> 33 % uint64(n))
	}
	var pattern func(typ string, deep int) string
	pattern = func(typ string, deep int) string {
		if below(3) == 0 || typ == "l" && deep == 0 {
			return "_"
		}
		switch typ {
		case "int":
			return []string{"0", "1"}[below(2)]
		case "bool":
			return []string{"true", "false"}[below(2)]
		case "unit":
			return "()"
		}
		switch below(3) {
		case 0:
			return "C (" + pattern("int", 0) + ", " + pattern("l", deep-1) + ")"
		case 1:
			return "D (" + pattern("bool", 0) + ", " + pattern("unit", 0) + ")"
		}
		return "N"
	}
	all := 0
	for range 3000 {
		types := []string{[]string{"int", "bool", "l"}[below(3)], []string{"bool", "unit", "l"}[below(3)]}
		var l []string
		for range 1 + below(7) {
			l = append(l, pattern(types[0], 2), pattern(types[1], 2))
		}
		s := "type l = N | C of int, l | D of bool, unit in match 0 with " + strings.Join(l, " -> 0 | ") + " -> 0 end"
		x, err, _ := parse.Parse(s)
		if err != api.OK {
			t.Fatal(s)
		}
		var rows [][]int
		for i := 1; i < len(x.Nodes[0].Kids); i += 4 {
			rows = append(rows, []int{x.Nodes[0].Kids[i], x.Nodes[0].Kids[i+2]})
		}
		last := rows[len(rows)-1]
		before := rows[:len(rows)-1]
		wantAll, wantUseful := true, false
		for _, a := range values(types[0], 3) {
			for _, b := range values(types[1], 3) {
				hit := func(r []int) bool { return matches(x, r[0], a) && matches(x, r[1], b) }
				first := false
				for _, r := range before {
					first = first || hit(r)
				}
				wantUseful = wantUseful || hit(last) && !first
				wantAll = wantAll && (first || hit(last))
			}
		}
		if got := All(x, rows); got != wantAll {
			t.Fatalf("P8.1: All of %s is %v", s, got)
		}
		if got := Useful(x, before, last); got != wantUseful {
			t.Fatalf("P8.1: Useful of %s is %v", s, got)
		}
		if wantAll {
			all++
		}
	}
	if all < 30 {
		t.Errorf("only %d matrices are exhaustive", all)
	}
}

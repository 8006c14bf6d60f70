package parse

import (
	"strconv"
	"strings"
	"testing"

	"hindsight/api"
	"hindsight/samples"
	"hindsight/tree"
)

func TestShapes(t *testing.T) {
	for _, c := range []struct{ s, want string }{
		{"1 + 2 * 3", "(1 + (2 * 3))"},
		{"1 - 2 - 3 + 4", "(((1 - 2) - 3) + 4)"},
		{"a b c", "((a b) c)"},
		{"a ; b ; c", "(a ; (b ; c))"},
		{"a := b := c", "(a := (b := c))"},
		{"a := 1 < 2 ; b", "((a := (1 < 2)) ; b)"},
		{"2 * 3 * 4 = 5 - 1", "(((2 * 3) * 4) = (5 - 1))"},
		{"ref ! print raise 1 2", "((ref (! (print (raise 1)))) 2)"},
		{"f ! x ref y", "((f (! x)) (ref y))"},
		{"fun x -> x ; y", "(fun x -> (x ; y))"},
		{"1 + fun x -> x + 1", "(1 + (fun x -> (x + 1)))"},
		{"f let x = 1 in x x", "(f (let x = 1 in (x x)))"},
		{"let rec f x = f x in f 1", "(let rec f x = (f x) in (f 1))"},
		{"if a then b else c ; d", "(if a then b else (c ; d))"},
		{"match a with 1 -> 2 | _ -> 3 ; 4 end x", "((match a with 1 -> 2 | _ -> (3 ; 4) end) x)"},
		{"try a ; b with x -> x end", "(try (a ; b) with x -> x end)"},
		{"type t = C | D of t, int in C ()", "type t = C | D of t, int in ((C) ())"},
		{"type t = C | D of t in D (C) C", "type t = C | D of t in (D (C) C)"},
		{"type t = C of unit in C (())", "type t = C of unit in C (())"},
		{"type t = C in type u = D in C D", "type t = C in type u = D in ((C) D)"},
		{"type t = C of unit, bool in match C ((), true) with C ((), false) -> () | x -> read end",
			"type t = C of unit, bool in (match C ((), true) with C ((), false) -> () | x -> read end)"},
		{"((((1))))", "1"}, {"(* a *) true", "true"}, {"read read", "(read read)"}, {"000", "0"},
		{"f (1) (2)", "((f 1) 2)"}, {"(a = b) = c", "((a = b) = c)"}, {"let x = 1 = 2 in x", "(let x = (1 = 2) in x)"},
	} {
		x, err, at := Parse(c.s)
		if got := tree.Show(x); got != c.want || err != api.OK || at != 0 {
			t.Errorf("P4.1: Parse(%q) is %s, %d, %d", c.s, got, err, at)
		}
	}
}

// spans writes kind and place of each node.
func spans(x tree.Tree) string {
	var l []string
	for _, n := range x.Nodes {
		l = append(l, strconv.Itoa(n.Kind)+"@"+strconv.Itoa(n.From)+"-"+strconv.Itoa(n.To))
	}
	return strings.Join(l, " ")
}

func TestPlaces(t *testing.T) {
	for _, c := range []struct{ s, want string }{
		{"(1 + 2) * (3)", "14@1-12 14@1-6 1@1-2 1@5-6 1@11-12"},
		{"( ) ", "3@0-3"}, {" ((x))", "4@3-4"},
		{"f (x) ; (read)", "12@0-13 7@0-4 4@0-1 4@3-4 18@9-13"},
		{"fun x -> (x)", "6@0-11 4@10-11"}, {"print (1)", "17@0-8 1@7-8"},
		{"let x = 1 in (x)", "8@0-15 1@8-9 4@14-15"}, {"let rec f x = 1 in 22", "9@0-21 1@14-15 1@19-21"},
		{"if (true) then 1 else (2)", "10@0-24 2@4-8 1@15-16 1@23-24"},
		{"match (1) with _ -> (2) end", "11@0-27 1@7-8 21@15-16 1@21-22"},
		{"try 1 with x -> (2) end ", "20@0-23 1@4-5 1@17-18"},
		{"type t = C of t | D in C ( C(D) )", "5@23-33 5@27-31 5@29-30"},
		{"type t = C of t | D in match D with C ( x ) -> 1 | D -> 2 end",
			"11@23-61 5@29-30 26@36-43 22@40-41 1@47-48 26@51-52 1@56-57"},
		{"x := ! y", "13@0-8 4@0-1 16@5-8 4@7-8"},
		{"match () with () -> 1 end", "11@0-25 3@6-8 25@14-16 1@20-21"},
	} {
		x, err, _ := Parse(c.s)
		if got := spans(x); got != c.want || err != api.OK {
			t.Errorf("P4.1: places of %q are %s, want %s", c.s, got, c.want)
		}
	}
}

func TestErrors(t *testing.T) {
	flood := func(n int) string { return "1" + strings.Repeat("+1", n) }
	balanced := "f(" + strings.Repeat("1+1)(", 300) + "1)"
	for _, c := range []struct {
		s   string
		err api.Errno
		at  int
	}{
		{"", api.EFORM, 0}, {" ", api.EFORM, 1}, {"1 +", api.EFORM, 3}, {"1 + )", api.EFORM, 4}, {"1 )", api.EFORM, 2},
		{"a < b < c", api.EFORM, 6}, {"a = b < c", api.EFORM, 6}, {"f _", api.EFORM, 2}, {"_", api.EFORM, 0},
		{"fun _ -> 1", api.EFORM, 4}, {"let _ = 1 in 1", api.EFORM, 4}, {"let rec f = 1 in f", api.EFORM, 10},
		{"try 1 with _ -> 1 end", api.EFORM, 11}, {"match 1 with end", api.EFORM, 13}, {"match 1 with 1 -> 2", api.EFORM, 19},
		{"match 1 with C () -> 2 end", api.EFORM, 16}, {"C (1,)", api.EFORM, 5}, {"C (", api.EFORM, 3}, {"- 1", api.EFORM, 0},
		{"type t = C of in 1", api.EFORM, 14}, {"type t = c in 1", api.EFORM, 9}, {"type T = C in 1", api.EFORM, 5},
		{"type t = C of _ in 1", api.EFORM, 14}, {"1 type t = C in 1", api.EFORM, 2}, {"let in", api.EFORM, 4},
		{"1 & (", api.EFORM, 2}, {"( 'a", api.EFORM, 2}, {") (*", api.EFORM, 2}, {"if 1 then 2", api.EFORM, 11},
		{"C", api.EFORM, 0}, {"type t = C in C (1)", api.EFORM, 0}, {"type t = C in type t = D in 1", api.EFORM, 0},
		{"type t = C of a in 1", api.EFORM, 0}, {"match 1 with C (x, x) -> 1 end", api.EFORM, 0}, {"type int = C in 1", api.EFORM, 0},
		{"type t = C of t, t, t, t in 1", api.EFORM, 0}, {"  D (1)", api.EFORM, 0},
		{flood(59), api.OK, 0}, {flood(60), api.ELIMIT, 0}, {"  " + flood(61), api.ELIMIT, 2},
		{strings.Repeat("ref ", 59) + "1", api.OK, 0}, {strings.Repeat("ref ", 60) + "1", api.ELIMIT, 240},
		{"(" + strings.Repeat("ref ", 60) + "1) + )", api.EFORM, 246}, {balanced, api.ELIMIT, 0},
		{strings.Repeat("(", 900) + "1" + strings.Repeat(")", 900), api.OK, 0},
		{flood(60) + " D", api.ELIMIT, 0},
	} {
		x, err, at := Parse(c.s)
		if err != c.err || at != c.at || err != api.OK && (x.Nodes != nil || x.Types != nil) {
			t.Errorf("P4.1: Parse(%.60q) is %d, %d, want %d, %d", c.s, err, at, c.err, c.at)
		}
	}
}

func TestManyNodes(t *testing.T) {
	// A group has 49 nodes, and the sum of 20 groups 999.
	group := "(f" + strings.Repeat(" f", 24) + ")"
	s := group + strings.Repeat("+"+group, 19)
	if x, err, at := Parse(s); err != api.OK || at != 0 || len(x.Nodes) != 999 {
		t.Errorf("P4.1: 999 nodes: %d, %d", err, at)
	}
	if x, err, at := Parse("ref(" + s + ")"); err != api.OK || at != 0 || len(x.Nodes) != 1000 {
		t.Errorf("P4.1: 1000 nodes: %d, %d", err, at)
	}
	if _, err, at := Parse(s + "+1"); err != api.ELIMIT || at != len(s)+1 {
		t.Errorf("P4.1: 1001 nodes: %d, %d", err, at)
	}
	if _, err, at := Parse(s + "+1+1+"); err != api.EFORM || at != len(s)+5 {
		t.Errorf("P4.1: 1003 nodes, no text: %d, %d", err, at)
	}
	if _, err, at := Parse(s + "+1+C"); err != api.ELIMIT || at != len(s)-2 {
		t.Errorf("P4.1: 1003 nodes, not valid: %d, %d", err, at)
	}
}

// TestAgain parses the text of each tree again.
func TestAgain(t *testing.T) {
	l := samples.Texts()
	for seed := range uint64(200) {
		l = append(l, samples.Random(seed))
	}
	for _, s := range l {
		x, err, _ := Parse(s)
		if err == api.ELIMIT {
			continue
		}
		text := tree.Show(x)
		y, again, at := Parse(text)
		if again == api.ELIMIT { // the text of a tree has more parentheses
			continue
		}
		if err != api.OK || again != api.OK || tree.Show(y) != text {
			t.Errorf("P4.1: %s is shown as %s: %d at %d", s, text, again, at)
		}
	}
}

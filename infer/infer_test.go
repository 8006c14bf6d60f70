package infer

import (
	"strings"
	"testing"

	"hindsight/api"
	"hindsight/parse"
	"hindsight/tree"
	"hindsight/ty"
)

func read(t *testing.T, s string) tree.Tree {
	t.Helper()
	x, err, at := parse.Parse(s)
	if err != api.OK {
		t.Fatalf("%q: %d at %d", s, err, at)
	}
	return x
}

const lists = "type l = N | C of int, l in "

func TestMain(t *testing.T) {
	for _, c := range []struct{ s, want string }{
		{"1", "int"}, {"true", "bool"}, {"()", "unit"}, {"read", "int"}, {"fun x -> x", "('a -> 'a)"},
		{"fun x -> fun y -> x", "('a -> ('b -> 'a))"}, {"fun f -> fun x -> f (f x)", "(('a -> 'a) -> ('a -> 'a))"},
		{"let i = fun x -> x in if i true then i 1 else 2", "int"},
		{"let i = fun x -> x in i i", "('a -> 'a)"},
		{"let rec f x = if x = 0 then 1 else x * f (x - 1) in f", "(int -> int)"},
		{"let rec f x = f x in f", "('a -> 'b)"},
		{"let rec i x = x in (print (i 1) ; i true)", "bool"},
		{"let rec f f = f + 1 in f", "(int -> int)"},
		{"ref 1", "(int ref)"}, {"fun r -> ! r + 1", "((int ref) -> int)"}, {"fun r -> (r := true ; r)", "((bool ref) -> (bool ref))"},
		{"print 1 ; 2 < 3", "bool"}, {"1 = 2", "bool"}, {"raise 1", "'a"}, {"try raise 1 with x -> x end", "int"},
		{"try () with x -> print x end", "unit"}, {"fun x -> raise x", "(int -> 'a)"},
		{lists + "C (1, N)", "l"}, {lists + "fun x -> match x with N -> 0 | C (y, _) -> y end", "(l -> int)"},
		{lists + "match C (1, N) with C (a, b) -> b | x -> x end", "l"},
		{"fun x -> match x with true -> 1 | y -> 2 end", "(bool -> int)"}, {"fun x -> match x with () -> 1 end", "(unit -> int)"},
		{"fun x -> match x with 1 -> fun y -> y | _ -> fun z -> x end", "(int -> (int -> int))"},
		{"let x = ref (fun y -> y) in (x := (fun z -> z + 1) ; x)", "((int -> int) ref)"},
		{"fun x -> let y = x in y", "('a -> 'a)"}, {"fun x -> let y = fun z -> x in y 1", "('a -> 'a)"},
		{"type f = F of unit, bool in fun x -> fun y -> F (x, y)", "(unit -> (bool -> f))"},
		{lists + "let n = C (1, N) in n", "l"},
		{"fun x -> let x = 1 in let i = fun y -> y in (print (i x) ; i true)", "('a -> bool)"},
	} {
		x, err, at := Infer(read(t, c.s))
		if err != api.OK || at != 0 || ty.Show(x.Main) != c.want || At(x, 0) != c.want {
			t.Errorf("P7.1: %s: %s, %d, %d", c.s, ty.Show(x.Main), err, at)
		}
	}
}

func TestErrors(t *testing.T) {
	double := "let d = fun x -> fun z -> z x x in fun y -> " + strings.Repeat("d (", 9) + "y" + strings.Repeat(")", 9)
	for _, c := range []struct {
		s   string
		err api.Errno
		at  int
	}{
		{"let i = fun x -> x in (i 1 ; i)", api.ETYPE, 4}, {"1 1", api.ETYPE, 1}, {"x", api.EOPEN, 0}, {"let x = x in x", api.EOPEN, 1},
		{"fun x -> y", api.EOPEN, 1}, {"let rec f x = 1 in x", api.EOPEN, 2}, {"try x with x -> 1 end", api.EOPEN, 1},
		{"match 1 with x -> 1 | _ -> x end", api.EOPEN, 5}, {"1 + true", api.ETYPE, 2}, {"true + x", api.ETYPE, 1},
		{"if 1 then x else 2", api.ETYPE, 1}, {"if true then 1 else ()", api.ETYPE, 3}, {"1 ; 2", api.ETYPE, 1},
		{"1 := 2", api.ETYPE, 1}, {"fun r -> (r := 1 ; r := true)", api.ETYPE, 6}, {"! 1", api.ETYPE, 1}, {"print ()", api.ETYPE, 1},
		{"raise true", api.ETYPE, 1}, {"try 1 with x -> () end", api.ETYPE, 2}, {"fun x -> x x", api.ETYPE, 2},
		{"match 1 with true -> 1 end", api.ETYPE, 2}, {"match 1 with 1 -> 1 | _ -> () end", api.ETYPE, 5},
		{"match 1 with 1 -> 1 | () -> 1 end", api.ETYPE, 4}, {lists + "C (true, N)", api.ETYPE, 1}, {lists + "C (1, 2)", api.ETYPE, 2},
		{lists + "match N with C (true, x) -> 1 end", api.ETYPE, 3}, {"let rec f x = f in 1", api.ETYPE, 1},
		{"let r = ref (fun x -> x) in ((! r) 1 ; 2)", api.ETYPE, 5},
		{"let f = (fun x -> x) (fun x -> x) in (print (f 1) ; f true)", api.ETYPE, 12},
		{"fun i -> (print (i 1) ; i true)", api.ETYPE, 7},
		{"let rec f x = (print (f 1) ; f true) in f", api.ETYPE, 7},
		{double, api.ELIMIT, 0},
	} {
		x, err, at := Infer(read(t, c.s))
		if c.err == api.ELIMIT {
			at = 0
		}
		if err != c.err || at != c.at || x.All != nil || x.Names != nil || x.Params != nil || x.Main.Kind != 0 {
			t.Errorf("P7.1: %s: %d at %d, want %d at %d", c.s, err, at, c.err, c.at)
		}
	}
	if _, err, at := Infer(tree.Tree{}); err != api.EARG || at != 0 {
		t.Errorf("P7.1: a tree that is not valid: %d, %d", err, at)
	}
}

func list(l []ty.Type) string {
	var s []string
	for _, t := range l {
		if t.Kind == 0 {
			s = append(s, ".")
		} else {
			s = append(s, ty.Show(t))
		}
	}
	return strings.Join(s, " ")
}

func TestLists(t *testing.T) {
	for _, c := range []struct{ s, all, names, params string }{
		{"let i = fun x -> x in i 1", "int ('a -> 'a) 'a int (int -> int) int", "('a -> 'a) . . . . .", ". 'a . . . ."},
		{"let rec f x = x in f true", "bool 'a bool (bool -> bool) bool", "('a -> 'a) . . . .", "'a . . . ."},
		{"match read with x -> try x with y -> y end end", "int int int int int int", ". . int . . .", ". . . int . ."},
		{"match true with _ -> 1 end", "int bool bool int", ". . . .", ". . . ."},
		{"fun x -> ! x := ()", "(((unit ref) ref) -> unit) unit (unit ref) ((unit ref) ref) unit", ". . . . .", "((unit ref) ref) . . . ."},
	} {
		x, err, _ := Infer(read(t, c.s))
		if err != api.OK || list(x.All) != c.all || list(x.Names) != c.names || list(x.Params) != c.params {
			t.Errorf("P7.1: %s: %s; %s; %s", c.s, list(x.All), list(x.Names), list(x.Params))
		}
		for at := range x.All {
			if At(x, at) != ty.Show(x.All[at]) {
				t.Errorf("P7.1: At %d is %s", at, At(x, at))
			}
		}
		if At(x, -1) != "" || At(x, len(x.All)) != "" {
			t.Error("P7.1: At beyond the nodes")
		}
	}
}

// TestOrder looks at the numbers of variables, which tell in which order they were created.
func TestOrder(t *testing.T) {
	x, _, _ := Infer(read(t, "fun f -> fun x -> f x"))
	if f, a := x.Params[0], x.Params[1]; f.Args[0].Var != 1 || f.Args[1].Var != 2 || a.Var != 1 {
		t.Errorf("P7.1: the variables are %v, %v", f, a)
	}
	x, _, _ = Infer(read(t, "let rec f x = f x in f"))
	if f := x.Names[0]; f.Args[0].Var != 1 || f.Args[1].Var != 2 || x.Main.Args[0].Var != 4 || x.Main.Args[1].Var != 5 {
		t.Errorf("P7.1: the variables are %v, %v", f, x.Main)
	}
}

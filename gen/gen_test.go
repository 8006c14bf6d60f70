package gen

import (
	"slices"
	"testing"

	"hindsight/api"
	"hindsight/code"
	"hindsight/parse"
	"hindsight/slot"
	"hindsight/tree"
)

func read(t *testing.T, s string) tree.Tree {
	t.Helper()
	x, err, at := parse.Parse(s)
	if err != api.OK {
		t.Fatalf("%q: %d at %d", s, err, at)
	}
	return x
}

func TestPrograms(t *testing.T) {
	for _, s := range []string{
		"1", "let x = 5 in print x", "fun x -> x", "let rec f x = if x = 0 then read else f (x - 1) in try f 3 with e -> raise e end",
		"type l = N | C of int, l in type b = L | M of b, b, b in let rec sum l = match l with N -> 0 | C (x, r) -> x + sum r end in sum (C (1, C (2, N)))",
		"let f = fun x -> fun y -> fun z -> x + y * z in let r = ref f in (r := f ; print ((! r) 1 2 3) ; true)",
		"match 300000 with 1 -> () | 300000 -> print 4611686018427387903 | x -> print x end", "1 2", "match 1 with 2 -> 3 end", "C",
	} {
		if s == "C" {
			s = "type t = C in C"
		}
		x := read(t, s)
		p, err := Gen(x)
		if err != api.OK {
			t.Errorf("P15.1: %s: %d", s, err)
		}
		instrs, err := code.All(p.Code)
		if err != api.OK {
			t.Errorf("P15.1: %s: the code is not one: %d", s, err)
		}
		begins := map[int]bool{}
		at := 0
		for _, i := range instrs {
			begins[at] = true
			at += code.Size(i)
		}
		last := -1
		var nodes []int
		for _, m := range p.Marks {
			if m.PC <= last || !begins[m.PC] {
				t.Errorf("P15.1: %s: a mark at %d", s, m.PC)
			}
			last = m.PC
			nodes = append(nodes, m.At)
		}
		slices.Sort(nodes)
		if !slices.Equal(nodes, tree.Stops(x)) {
			t.Errorf("P15.1: %s: the marks are of %v", s, nodes)
		}
		funs := slot.Funs(x)
		if len(p.Pieces) != len(funs) {
			t.Fatalf("P15.1: %s: %d pieces", s, len(p.Pieces))
		}
		for i, f := range funs {
			if q := p.Pieces[i]; q.Node != f.Node || q.Slots != f.Slots || q.Caught != len(f.Caught) || !begins[q.PC] {
				t.Errorf("P15.1: %s: piece %d is %v", s, i, q)
			}
		}
	}
}

func TestNames(t *testing.T) {
	p, _ := Gen(read(t, "type b = Z | A of int in type a = M in 1"))
	if !slices.Equal(p.Names, []string{"Z", "A", "M"}) {
		t.Errorf("P15.1: Names is %v", p.Names)
	}
	p, _ = Gen(read(t, "1"))
	if len(p.Pieces) != 1 || len(p.Marks) != 0 || p.Names != nil || p.Pieces[0].Node != -1 {
		t.Errorf("P15.1: the program of 1 is %v", p)
	}
}

func TestErrors(t *testing.T) {
	for _, x := range []tree.Tree{{}, read(t, "x"), read(t, "let x = y in x"), read(t, "fun x -> (fun y -> y ; z)")} {
		if p, err := Gen(x); err != api.EARG || p.Code != nil || p.Pieces != nil {
			t.Errorf("P15.1: Gen returns %d", err)
		}
	}
}

// TestFar has code of more than 2^12 bytes, so that jumps have operands of all sizes.
func TestFar(t *testing.T) {
	s := "type p = P of p, int, int | Q in let p = Q in match p with "
	for range 7 {
		for range 25 {
			s += "P("
		}
		s += "Q"
		for range 25 {
			s += ",1,_)"
		}
		s += "->1|"
	}
	p, err := Gen(read(t, s+"_->2 end"))
	if err != api.OK {
		t.Fatal(err)
	}
	if _, err := code.All(p.Code); err != api.OK || len(p.Code) < 1<<12 {
		t.Errorf("P15.1: %d bytes of code: %d", len(p.Code), err)
	}
}

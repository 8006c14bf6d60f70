package image

import (
	"bytes"
	"reflect"
	"slices"
	"strings"
	"testing"

	"hindsight/api"
	"hindsight/chars"
	"hindsight/gen"
	"hindsight/infer"
	"hindsight/info"
	"hindsight/parse"
	"hindsight/slot"
	"hindsight/tree"
	"hindsight/ty"
)

var texts = []string{
	"1", "let x = 5 in print x", "let rec f x =\n  if x = 0 then 1 else x * f (x - 1)\nin\nprint (f 10)",
	"let a = 1 in let f = fun x -> (print (x + a) ; let a = true in if a then print x else (print 2 ; fun b -> print (b + x)) 3) in f a",
	"type l = N | C of int, l in let rec s l = match l with N -> 0 | C (x, r) -> x + s r end in print (s (C (1, C (2, N))))",
	"let f = fun x -> fun y -> (print x ; print y ; try raise y with x -> print x end) in f 1 2",
	"let rec f x = let rec g y = f (g (x + y)) in g x in let rec f f = print f in f 1",
	"fun x -> fun y -> let z = x in (print z ; fun q -> (print q ; x))",
	"(* é *) let é = ref 1 in (é := 2 ;\n\tprint (! é))",
}

func build(t *testing.T, s string) Image {
	t.Helper()
	m, err, at := Build(s)
	if err != api.OK || at != 0 {
		t.Fatalf("%q: %d at %d", s, err, at)
	}
	return m
}

func TestBuild(t *testing.T) {
	for _, s := range texts {
		m := build(t, s)
		x, _, _ := parse.Parse(s)
		types, _, _ := infer.Infer(x)
		p, _ := gen.Gen(x)
		if m.Source != s || tree.Show(m.Tree) != tree.Show(x) || !reflect.DeepEqual(m.Types, types) || !reflect.DeepEqual(m.Program, p) {
			t.Errorf("P19.1: the image of %q is not made of its parts", s)
		}
		if !info.Good(m.Table) || len(m.Table.Stops) != len(p.Marks) {
			t.Errorf("P19.1: the table of %q", s)
		}
		for i, stop := range m.Table.Stops {
			line, col := chars.Pos(s, x.Nodes[stop.At].From)
			if stop.PC != p.Marks[i].PC || stop.At != p.Marks[i].At || stop.Line != line || stop.Col != col {
				t.Errorf("P19.1: stop %d of %q is %v", i, s, stop)
			}
			checkVars(t, m, stop)
		}
	}
}

// checkVars holds the variables of a stop against package slot.
func checkVars(t *testing.T, m Image, stop info.Stop) {
	t.Helper()
	scope := slot.Scope(m.Tree, stop.At)
	l := info.Names(m.Table, stop.PC)
	if len(l) != len(scope) {
		t.Errorf("P19.1: %d variables at node %d of %q, want %d", len(l), stop.At, m.Source, len(scope))
	}
	for _, v := range l {
		p, _ := slot.Where(m.Tree, stop.At, v.Name)
		node, param, _ := slot.Binder(m.Tree, stop.At, v.Name)
		want := m.Types.Names[node]
		if param {
			want = m.Types.Params[node]
		}
		if !slices.Contains(scope, v.Name) || v.Kind != p.Kind || v.N != p.N || v.Type != ty.Show(want) {
			t.Errorf("P19.1: %v at node %d of %q", v, stop.At, m.Source)
		}
	}
}

// TestManyVars has 81 variables that 45 functions capture.
func TestManyVars(t *testing.T) {
	leaf := 0
	var pattern func(deep int) string
	pattern = func(deep int) string {
		if deep == 0 {
			leaf++
			return string([]byte{'a' + byte(leaf/26), 'a' + byte(leaf%26)})
		}
		return "A(" + pattern(deep-1) + "," + pattern(deep-1) + "," + pattern(deep-1) + ")"
	}
	p := pattern(4)
	m := build(t, "type t = A of t, t, t | L in match L with "+p+"->"+strings.Repeat("let rec f x=", 45)+p+strings.Repeat(" in 0", 45)+"|_->0 end")
	if !info.Good(m.Table) {
		t.Errorf("P19.1: a table of %d variables is not valid", len(m.Table.Vars))
	}
	for i := 0; i < len(m.Table.Stops); i += 9 {
		checkVars(t, m, m.Table.Stops[i])
	}
}

func TestErrors(t *testing.T) {
	for _, c := range []struct {
		s   string
		err api.Errno
		at  int
	}{
		{"1 +", api.EFORM, 3}, {"", api.EFORM, 0}, {"1 & 2", api.EFORM, 2}, {" 1 true", api.ETYPE, 1}, {"print (x)", api.EOPEN, 7},
		{"(1 ; 2)", api.ETYPE, 1}, {" match 1 with 1 -> 2 end", api.ECOVER, 1}, {"match 1 with _ -> 2 | 5 -> 3 end", api.ECOVER, 22},
		{strings.Repeat(" ", 4001), api.ELIMIT, 0}, {"print (match true with true -> false end)", api.ETYPE, 7},
		{"match x with 1 -> 1 end", api.EOPEN, 6},
	} {
		m, err, at := Build(c.s)
		if err != c.err || at != c.at || m.Source != "" || m.Tree.Nodes != nil || m.Table.Stops != nil {
			t.Errorf("P19.1: Build(%.30q) is %d, %d", c.s, err, at)
		}
	}
}

func TestPutAndGet(t *testing.T) {
	for _, s := range texts {
		m := build(t, s)
		b := Put(m)
		want := append([]byte{'M', 'L', 'X', '1', 0, 0, 0, byte(len(s))}, s...)
		if !bytes.Equal(b, want) {
			t.Errorf("P19.1: Put of %q is %q", s, b)
		}
		got, err := Get(b)
		if err != api.OK || !reflect.DeepEqual(got, m) {
			t.Errorf("P19.1: Get of %q: %d", s, err)
		}
	}
	for _, b := range []string{"", "MLX1", "MLX1\x00\x00\x00", "MLX1\x00\x00\x00\x00", "MLX1\x00\x00\x00\x011 ", "MLX1\x00\x00\x00\x021", "MLX2\x00\x00\x00\x011",
		"MLX1\x01\x00\x00\x011", "MLX1\x00\x00\x00\x03x+1", "MLX1\x00\x00\x00\x031 1", "mlx1\x00\x00\x00\x011", "MLX1\xff\xff\xff\xff1"} {
		if m, err := Get([]byte(b)); err != api.EFORM || m.Source != "" {
			t.Errorf("P19.1: Get(%q) is %d", b, err)
		}
	}
	if m, err := Get([]byte("MLX1\x00\x00\x00\x011")); err != api.OK || m.Source != "1" {
		t.Errorf("P19.1: Get of the image of 1 is %d", err)
	}
}

package source

import (
	"slices"
	"strconv"
	"strings"
	"testing"

	"hindsight/api"
	"hindsight/parse"
	"hindsight/tree"
	"hindsight/ty"
	"hindsight/val"
)

func read(t *testing.T, s string) tree.Tree {
	t.Helper()
	x, err, at := parse.Parse(s)
	if err != api.OK {
		t.Fatalf("%q: %d at %d", s, err, at)
	}
	return x
}

func begin(t *testing.T, s string, input ...int64) *Machine {
	t.Helper()
	m, err := New(read(t, s), input)
	if err != api.OK {
		t.Fatalf("%q: %d", s, err)
	}
	return m
}

// numbers writes numbers with commas between them.
func numbers(l []int64) string {
	var s []string
	for _, n := range l {
		s = append(s, strconv.FormatInt(n, 10))
	}
	return strings.Join(s, ",")
}

// end writes what an execution has come to.
func end(m *Machine) string {
	v, ok := m.Value()
	s := "out " + numbers(m.Out())
	switch m.Over() {
	case api.Value:
		t := ty.Type{Kind: v.Kind}
		if v.Kind == 6 {
			t.Args = []ty.Type{{Kind: 1}}
		}
		cons := []val.Arg{{Name: "C", Types: []string{"int", "l"}}, {Name: "P", Types: []string{"int", "bool", "unit"}}}
		return s + " value " + val.Render(v, t, m.Cells(), cons)
	case api.Raised:
		s += " raised " + strconv.FormatInt(m.Error(), 10)
	case api.Starve:
		s += " starve"
	default:
		s += " going"
	}
	if ok || v.Kind != 0 {
		s += " with a value"
	}
	return s
}

const list = "type l = N | C of int, l in "

func TestEnds(t *testing.T) {
	for _, c := range []struct{ s, want string }{
		{"print (1 + 2)", "out 3 value ()"}, {"1", "out  value 1"}, {"true", "out  value true"}, {"fun x -> x", "out  value <fun>"},
		{"2 - 3 * 4", "out  value -10"}, {"1 < 2", "out  value true"}, {"2 < 2", "out  value false"}, {"3 = 3", "out  value true"},
		{"4611686018427387903 + 1", "out  value -4611686018427387904"},
		{"let x = 1 in let y = x + 1 in x + y", "out  value 3"}, {"let x = 1 in let x = x + 1 in x", "out  value 2"},
		{"(fun x -> fun y -> x - y) 5 3", "out  value 2"},
		{"let x = 1 in let f = fun y -> x + y in let x = 100 in f x", "out  value 101"},
		{"let rec f x = if x = 0 then 0 else x + f (x - 1) in f 100", "out  value 5050"},
		{"let rec f f = f + 1 in f 1", "out  value 2"},
		{"let rec f x = if x = 0 then 7 else f (x - 1) in let g = f in let f = fun x -> 9 in g 3", "out  value 7"},
		{"print 1 ; print 2 ; print (print 3 ; 4)", "out 1,2,3,4 value ()"},
		{"(print 1 ; 10) + (print 2 ; 20)", "out 1,2 value 30"},
		{"(print 1 ; fun x -> (print x ; x)) (print 2 ; 3)", "out 1,2,3 value 3"},
		{"let r = ref 1 in (r := ! r + 5 ; ! r * 2)", "out  value 12"}, {"ref 4", "out  value ref 4"},
		{"(print 1 ; ref 0) := (print 2 ; 5)", "out 1,2 value ()"},
		{"let a = ref 1 in let b = a in (b := 2 ; ! a)", "out  value 2"},
		{"read + read * 10", "out  value 84"}, {"read ; 1 ; read ; read", "out  starve"}, {"print read ; print read ; print read", "out 4,8 starve"},
		{"raise 5", "out  raised 5"}, {"print 1 ; raise 0 - 1 ; print 2", "out 1 raised 0"}, {"raise (0 - 1)", "out  raised -1"},
		{"try raise 5 with x -> x + 1 end", "out  value 6"}, {"try 1 with x -> 2 end", "out  value 1"},
		{"try raise 5 with x -> raise (x + 1) end", "out  raised 6"},
		{"try try raise 1 with x -> raise (x + 1) end with y -> y * 10 end", "out  value 20"},
		{"try (try 1 with x -> 2 end ; raise 7) with x -> x end", "out  value 7"},
		{"let f = fun x -> raise x in try f 3 + 1 with e -> let g = fun x -> x + e in g 1 end", "out  value 4"},
		{"let x = 5 in try let x = 6 in raise x with y -> x * 10 + y end", "out  value 56"},
		{"if 1 < 2 then print 1 else print 2", "out 1 value ()"}, {"if false then 1 else 2", "out  value 2"},
		{"match 2 with 1 -> 10 | 2 -> 20 | _ -> 30 end", "out  value 20"}, {"match () with () -> 1 end", "out  value 1"},
		{"match true with false -> 1 | true -> 2 end", "out  value 2"}, {"match 5 with x -> x + 1 end", "out  value 6"},
		{list + "C (print 1 ; 1, C (print 2 ; 2, N))", "out 1,2 value C (1, C (2, N))"},
		{list + "match C (1, C (2, N)) with C (x, C (3, y)) -> 0 | C (x, C (y, N)) -> x * 10 + y | _ -> 1 end", "out  value 12"},
		{list + "match N with C (x, y) -> x | N -> 3 end", "out  value 3"},
		{"type p = P of int, bool, unit in P (1, true, ())", "out  value P (1, true, ())"},
		{"type p = P of int, int in let x = 9 in match P (1, 2) with P (x, y) -> x * 10 + y end", "out  value 12"},
		// Trees that have no types get stuck.
		{"1 2", "out  raised 0"}, {"x", "out  raised 0"}, {"match 1 with 2 -> 3 end", "out  raised 0"}, {"if 1 then 2 else 3", "out  raised 0"},
		{"! 1", "out  raised 0"}, {"1 := 2", "out  raised 0"}, {"print true", "out  raised 0"}, {"raise ()", "out  raised 0"},
		{"1 + true", "out  raised 0"}, {"try 1 2 with x -> x end", "out  raised 0"}, {"true = true", "out  raised 0"},
	} {
		m := begin(t, c.s, 4, 8)
		if m.Run(100000); end(m) != c.want {
			t.Errorf("P10.1: %s: %s, want %s", c.s, end(m), c.want)
		}
		if m.Step() || m.Run(5) != 0 {
			t.Errorf("P10.1: %s goes on after its end", c.s)
		}
		if _, ok := m.Stop(); ok {
			t.Errorf("P10.1: %s has a stop after its end", c.s)
		}
	}
}

// stops writes all stops of an execution: node, active calls, names in scope.
func stops(t *testing.T, m *Machine) string {
	var l []string
	for going := true; going; going = m.Step() {
		s, ok := m.Stop()
		if !ok {
			continue
		}
		if s.Count != int64(len(l)) {
			t.Errorf("P10.1: Count is %d, want %d", s.Count, len(l))
		}
		x := strconv.Itoa(s.At) + "[" + strings.Join(val.Names(s.Env), "") + "]"
		for _, f := range s.Calls {
			x += " " + strconv.Itoa(f.Call) + ":" + strconv.Itoa(f.Fun)
		}
		l = append(l, x)
	}
	return strings.Join(l, "; ")
}

func TestStops(t *testing.T) {
	for _, c := range []struct{ s, want string }{
		{"1 + 2", ""}, {"print (1 + 2)", "0[]"}, {"let x = 1 in print x", "0[]; 2[x]"},
		{"(fun x -> print x) 1", "0[]; 2[x] 0:1"},
		{"let rec f x = if x = 0 then read else f (x - 1) in f 1",
			"0[]; 11[f]; 1[xf] 11:0; 6[xf] 11:0; 1[xf] 11:0 6:0; 5[xf] 11:0 6:0"},
		{"try (fun x -> raise x) 1 with y -> print y end ; print 2", "1[]; 2[]; 4[x] 2:3; 7[y]; 9[]"},
		{"match ref 1 with x -> x := 2 end", "0[]; 4[x]"},
		{"type p = P of int, int in match P (1, 2) with P (x, y) -> print x end", "0[]; 7[yx]"},
		{"(fun x -> x) ((fun y -> y) 1)", "0[]; 3[]"},
		{"(fun f -> f 1 ; print 2) (fun x -> print x)", "0[]; 3[f] 0:1; 9[x] 0:1 3:8; 6[f] 0:1"},
	} {
		m := begin(t, c.s, 7)
		if got := stops(t, m); got != c.want {
			t.Errorf("P10.1: stops of %s: %s, want %s", c.s, got, c.want)
		}
	}
}

func TestSteps(t *testing.T) {
	m := begin(t, "1")
	if m.Over() != api.Going || m.Steps() != 0 || m.Run(0) != 0 || m.Run(-5) != 0 || !m.Step() || m.Over() != api.Value || m.Steps() != 1 || m.Step() {
		t.Error("P10.1: the steps of 1")
	}
	all := begin(t, "let rec f x = if x = 0 then print 5 else f (x - 1) in f 10")
	many := all.Run(1000000)
	if many != all.Steps() || all.Over() != api.Value || many < 11*8 {
		t.Errorf("P10.1: Run performs %d steps, Steps is %d", many, all.Steps())
	}
	part := begin(t, "let rec f x = if x = 0 then print 5 else f (x - 1) in f 10")
	if part.Run(7) != 7 || part.Steps() != 7 || part.Over() != api.Going || part.Run(many) != many-7 || part.Over() != api.Value {
		t.Error("P10.1: Run in parts")
	}
	loop := begin(t, "let rec f x = f x in f 1")
	if loop.Run(100000) != 100000 || loop.Over() != api.Going {
		t.Error("P10.1: a program without an end")
	}
}

func TestCellsAndRead(t *testing.T) {
	m := begin(t, "let a = ref read in let b = ref true in (a := read ; 0)", 3, 4, 5)
	m.Run(10000)
	if c := m.Cells(); len(c) != 2 || c[0].N != 4 || c[1].Kind != 2 || m.Read() != 2 {
		t.Errorf("P10.1: Cells is %v, Read is %d", c, m.Read())
	}
	m.Cells()[0].N = 9
	if m.Cells()[0].N != 4 {
		t.Error("R4: Cells shares memory")
	}
}

func TestNew(t *testing.T) {
	good := read(t, "read")
	for i, c := range []struct {
		t     tree.Tree
		input []int64
		want  api.Errno
	}{
		{good, nil, api.OK}, {tree.Tree{}, nil, api.EARG}, {good, make([]int64, api.MaxInput), api.OK}, {good, make([]int64, api.MaxInput+1), api.EARG},
		{good, []int64{4611686018427387903, -4611686018427387904}, api.OK}, {good, []int64{1, 4611686018427387904}, api.EARG},
		{good, []int64{-4611686018427387905}, api.EARG},
	} {
		if m, err := New(c.t, c.input); err != c.want || (m == nil) != (err != api.OK) {
			t.Errorf("P10.1: number %d: New returns %d", i, err)
		}
	}
	x, input := read(t, "print read ; print read"), []int64{1, 2}
	m, _ := New(x, input)
	x.Nodes[0].Kind, x.Nodes[1].Kids[0], input[0] = 3, 0, 9
	m.Run(1000)
	if !slices.Equal(m.Out(), []int64{1, 2}) {
		t.Errorf("R4: the output is %v", m.Out())
	}
	m.Out()[0] = 5
	if m.Out()[0] != 1 {
		t.Error("R4: Out shares memory")
	}
}

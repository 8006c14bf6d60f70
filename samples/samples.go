// Package samples has source texts for the tests of several packages: a list of chosen ones, and as
// many more as a test asks for. All of them have types, and their executions end.
package samples

// Texts returns the chosen texts.
func Texts() []string {
	return []string{
		"1", "()", "true", "fun x -> x", "print 1", "print (1 + 2)", "raise 7", "read", "read + read", "1 + raise 2",
		"let x = 5 in print x",
		"let x = 1 in\nlet y = x + 1 in\nprint x ;\nprint y ;\nx < y",
		"let rec fact n =\n  if n = 0 then 1 else n * fact (n - 1)\nin\nprint (fact 10) ;\nfact 20",
		"let rec loop n = if n = 0 then raise 3 else (print n ; loop (n - 1)) in\ntry loop 4 with e -> print (e * 100) end ;\nloop 2",
		"type l = N | C of int, l in\nlet rec build n = if n = 0 then N else C (n, build (n - 1)) in\n" +
			"let rec sum l = match l with\n  N -> 0\n| C (x, r) -> x + sum r end in\nlet l = build 6 in\nprint (sum l) ; l",
		"type b = L | M of b, int, bool in\nlet t = M (M (L, 1, true), 2, false) in\n" +
			"match t with L -> 0 | M (L, x, _) -> x | M (M (_, y, true), x, false) -> (print y ; x * 10 + y) | M (_, x, _) -> x end",
		"let r = ref 0 in\nlet add = fun n -> (r := ! r + n ; ! r) in\nprint (add 1) ;\nprint (add 10) ;\nref r",
		"let c = fun f -> fun g -> fun x -> g (f x) in\nlet inc = fun x -> x + 1 in\nc inc (c inc inc) 1",
		"let id = fun x -> x in\n(if id true then print (id 3) else ()) ;\nid id 4",
		"let x = read in\nlet y = read in\n(if x < y then print x else print y) ;\nread + x",
		"let rec down n = try if n < 1 then raise 100 else down (n - 1) with e -> (print n ; raise (e + n)) end in down 3",
		"let x = 1 in let f = fun y -> let x = x + y in fun z -> (print (x + y + z) ; x) in let g = f 10 in (print (g 1) ; g 2)",
		"let rec f f = f + 1 in let g = f in let f = g 1 in f",
		"let rec even n = if n = 0 then true else let rec odd m = if m = 0 then false else even (m - 1) in odd (n - 1) in even 7",
		"let r = ref (fun x -> x) in ((r := fun x -> if x < 1 then 0 else x + (! r) (x - 1)) ; print ((! r) 5))",
		"let r = ref (fun x -> x + 1) in let s = ref r in (! s := (fun x -> x * 2) ; print ((! r) 21) ; s)",
		"type e = A of unit, bool, int | Z in let k = A ((), true, 5) in match k with Z -> k | A (u, b, n) -> A (u, n < 9, n) end",
		"match 3 with 1 -> print 1 | 3 -> print 30 | x -> print x end ; match true with true -> 1 | false -> 2 end",
		"let rec churn n = if n = 0 then 0 else let r = ref n in (r := ! r + 1 ; ! r - n + churn (n - 1)) in print (churn 60)",
		"type l = N | C of int, l in let keep = ref N in let rec go n = if n = 0 then ! keep else (keep := C (n, ! keep) ; go (n - 1)) in go 12",
		"try (try raise 1 with a -> raise (a + 1) end ; raise 9) with b -> let c = b in print (b + c) end",
		"let f = fun x -> raise x in let g = fun x -> try f x with y -> f (y + 1) end in try g 1 with z -> z end",
		"let u = () in let v = match u with () -> print 4 end in v",
		"type d = L | P of d, d in let rec grow n = if n = 0 then L else let x = grow (n - 1) in P (x, x) in let x = grow 4 in (print 1 ; x)",
		"fun x -> fun y -> print x", "let f = fun x -> fun y -> x in f 1", "let a = 4611686018427387903 in (print (a + 1) ; a * a)",
	}
}

// Random returns a text that depends on the seed alone.
func Random(seed uint64) string {
	g := grower{state: seed*2862933555777941757 + 3037000493}
	g.put("type l = N | C of int, l in\nlet a = ")
	g.number(2)
	g.names = append(g.names, name{"a", 'i'})
	for range 2 + g.pick(3) {
		g.put(" in\n")
		g.bind(3)
	}
	g.put(" in\n")
	g.any("ulib"[g.pick(4)], 4)
	return string(g.text)
}

// name is a variable; its kind is i (int), b (bool), u (unit), l (list), f (function of an int), c (cell
// of an int) or r (recursive function, which is only applied to small numbers).
type name struct {
	text string
	kind byte
}

type grower struct {
	state uint64
	text  []byte
	names []name
	fresh int
}

// pick returns a number below n.
func (g *grower) pick(n int) int {
	g.state = g.state*6364136223846793005 + 1442695040888963407
	return int(g.state >> 33 % uint64(n))
}

func (g *grower) put(l ...string) {
	for _, s := range l {
		g.text = append(g.text, s...)
	}
	if g.pick(25) == 0 {
		g.text = append(g.text, '\n')
	}
}

// new returns a name, which sometimes hides another one.
func (g *grower) new() string {
	if g.pick(4) == 0 {
		return "a"
	}
	g.fresh++
	return "v" + string([]byte{byte('0' + g.fresh/10%10), byte('0' + g.fresh%10)})
}

// find puts a visible variable of a kind, if there is one.
func (g *grower) find(kind byte) bool {
	for range 6 {
		if len(g.names) == 0 {
			return false
		}
		n := g.names[g.pick(len(g.names))]
		if n.kind == kind && g.kind(n.text) == kind {
			g.put(n.text)
			return true
		}
	}
	return false
}

// kind returns the kind of the innermost variable of a name.
func (g *grower) kind(text string) byte {
	for i := len(g.names) - 1; i >= 0; i-- {
		if g.names[i].text == text {
			return g.names[i].kind
		}
	}
	return 0
}

// with writes an expression in which more variables are visible.
func (g *grower) with(kind byte, deep int, more ...name) {
	was := len(g.names)
	g.names = append(g.names, more...)
	g.any(kind, deep)
	g.names = g.names[:was]
}

// bind writes a let up to its `in`, after which its name is visible.
func (g *grower) bind(deep int) {
	kind := "ibulfcrr"[g.pick(8)]
	n := g.new()
	if kind == 'r' {
		g.put("let rec ", n, " x = if x < 1 then ")
		g.with('i', deep-1, name{n, 0}, name{"x", 'i'})
		g.put(" else (")
		g.with('u', deep-1, name{n, 0}, name{"x", 'i'})
		g.put(" ; 1 + ", n, " (x - 1))")
	} else {
		g.put("let ", n, " = ")
		g.any(kind, deep)
	}
	g.names = append(g.names, name{n, kind})
}

package show

import (
	"strings"
	"testing"

	"hindsight/api"
	"hindsight/cmd"
	"hindsight/cursor"
	"hindsight/image"
	"hindsight/samples"
	"hindsight/ty"
	"hindsight/vm"
	"hindsight/word"
)

var input = []int64{3, -4}

func begin(t *testing.T, s string, room int) (image.Image, *vm.Machine) {
	t.Helper()
	m, err, at := image.Build(s)
	if err != api.OK {
		t.Fatalf("%q: %d at %d", s, err, at)
	}
	v, err := vm.New(m, input, room, api.MaxStack)
	if err != api.OK {
		t.Fatal(err)
	}
	return m, v
}

// TestAgree follows the programs in a heap that is collected often, and holds what is shown against
// the reference debugger.
func TestAgree(t *testing.T) {
	l := samples.Texts()
	for seed := range uint64(150) {
		if _, err, _ := image.Build(samples.Random(seed)); err == api.OK {
			l = append(l, samples.Random(seed))
		}
	}
	for _, s := range l {
		m, v := begin(t, s, 600)
		c, err := cursor.New(m.Tree, m.Types, s, input, api.MaxFuel)
		if err != api.OK {
			t.Fatal(err)
		}
		for {
			if _, err := v.ToStop(api.MaxFuel); err == api.EHEAP {
				break
			} else if err != api.OK {
				t.Fatalf("%s: %d", s, err)
			}
			if v.Over() != api.Going {
				break
			}
			locals := Locals(v, m)
			if want := c.Do(cmd.Cmd{Kind: 12}).Text; strings.Join(locals, "\n") != want {
				t.Fatalf("P26.2: %s: locals at %d are %v, want %s", s, v.Stops(), locals, want)
			}
			for _, x := range locals {
				name, want, _ := strings.Cut(x, " = ")
				if got, ok := Local(v, m, name); got != want || !ok {
					t.Fatalf("P26.2: %s: %s at %d is %s, %v", s, name, v.Stops(), got, ok)
				}
			}
			if _, ok := Local(v, m, "nobody"); ok {
				t.Fatal("P26.1: a name that is not in scope")
			}
			if _, ok := Result(v, m); ok {
				t.Fatal("P26.1: a result before the end")
			}
			c.Do(cmd.Cmd{Kind: 3, N: 1})
		}
		if v.Over() == api.Going {
			continue
		}
		if _, ok := Local(v, m, "a"); ok || Locals(v, m) != nil {
			t.Fatalf("P26.1: %s: variables at the end", s)
		}
		got, ok := Result(v, m)
		at := c.Do(cmd.Cmd{Kind: 11}).Text
		if _, want, there := strings.Cut(at, " value "); ok != there || got != want {
			t.Fatalf("P26.2: %s: the result is %s, %v, want %s", s, got, ok, at)
		}
	}
}

func TestWord(t *testing.T) {
	const types = "type l = N | C of int, l type b = X of b, bool, unit | Y of f type f = Z in "
	s := strings.ReplaceAll(types, " type", " in type") + "let r = ref 7 in let f = fun x -> r in let l = C (1, C (2, N)) in (f r ; print 1)"
	s = strings.ReplaceAll(s, "(f r ; print 1)", "let g = f r in print 1")
	m, v := begin(t, s, 600)
	for range 6 {
		v.ToStop(1000)
	}
	h := v.Heap()
	number := func(n int64) word.Word { return word.Num(n) }
	object := func(kind, tag int, l ...word.Word) word.Word {
		p, err := h.Make(kind, tag, l...)
		if err != api.OK {
			t.Fatal(err)
		}
		return p
	}
	in, bo, un, fn, po := ty.Type{Kind: 1}, ty.Type{Kind: 2}, ty.Type{Kind: 3}, ty.Type{Kind: 5}, ty.Type{Kind: 7}
	named := func(s string) ty.Type { return ty.Type{Kind: 4, Name: s} }
	ref := func(t ty.Type) ty.Type { return ty.Type{Kind: 6, Args: []ty.Type{t}} }
	cell, fun := object(3, 0, number(7)), object(2, 0, number(1))
	list := object(1, 1, number(1), object(1, 1, number(2), number(0)))
	deep := number(0)
	for range 60 {
		deep = object(1, 1, number(5), deep)
	}
	nested := in
	for range 3 {
		nested = ref(nested)
	}
	for i, c := range []struct {
		w    word.Word
		t    ty.Type
		want string
	}{
		{number(-3), in, "-3"}, {cell, in, "?"}, {number(0), bo, "false"}, {number(1), bo, "true"}, {number(2), bo, "?"}, {number(-1), bo, "?"},
		{number(0), un, "()"}, {number(1), un, "?"}, {cell, un, "?"}, {number(5), po, "<poly>"}, {cell, po, "<poly>"}, {1 << 60, po, "<poly>"},
		{fun, fn, "<fun>"}, {cell, fn, "?"}, {number(1), fn, "?"}, {cell, ref(in), "ref 7"}, {fun, ref(in), "?"}, {number(7), ref(in), "?"},
		{cell, ref(bo), "ref ?"}, {cell, ty.Type{Kind: 6}, "ref ?"}, {object(3, 0, cell), ref(ref(in)), "ref ref 7"}, {object(3, 0), ref(in), "?"},
		{object(3, 0, number(1), number(2)), ref(in), "?"}, {list, named("l"), "C (1, C (2, N))"}, {list, named("b"), "?"}, {list, named("q"), "?"},
		{number(0), named("l"), "N"}, {number(1), named("l"), "?"}, {number(2), named("l"), "?"}, {number(-1), named("l"), "?"}, {number(1 << 40), named("l"), "?"},
		{number(0), named("f"), "Z"}, {number(0), named("q"), "?"}, {object(1, 0, number(9), number(1), number(0)), named("b"), "X (?, true, ())"},
		{object(1, 0, number(9), number(1)), named("b"), "?"}, {object(1, 1, number(0)), named("b"), "Y (Z)"}, {object(1, 7, number(0)), named("b"), "?"},
		{object(2, 1, number(1), number(2)), named("l"), "?"}, {object(1, 0), named("l"), "?"}, {1 << 50, named("l"), "?"}, {word.Ptr(9999), in, "?"},
		{deep, named("l"), strings.Repeat("C (5, ", 49) + "C (.., ..)" + strings.Repeat(")", 49)}, {number(1), ty.Type{}, "?"}, {number(1), ty.Type{Kind: 8}, "?"},
		{object(3, 0, object(3, 0, cell)), nested, "ref ref ref 7"}, {word.Word(0), named("l"), Word(v, m, 0, named("l"))},
	} {
		if got := Word(v, m, c.w, c.t); got != c.want {
			t.Errorf("P26.1: number %d: %s, want %s", i, got, c.want)
		}
	}
}

func TestExample(t *testing.T) {
	m, v := begin(t, "let x = 5 in print x", 64)
	if Locals(v, m) != nil {
		t.Error("P26.1: Locals before the first stop")
	}
	v.ToStop(100)
	if l := Locals(v, m); len(l) != 0 {
		t.Errorf("P26.1: Locals at the let is %v", l)
	}
	v.ToStop(100)
	if l := Locals(v, m); len(l) != 1 || l[0] != "x = 5" {
		t.Errorf("P26.1: Locals is %v", l)
	}
}

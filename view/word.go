package view

import (
	"strconv"

	"hindsight/api"
	"hindsight/heap"
	"hindsight/tree"
	"hindsight/ty"
	"hindsight/vm"
	"hindsight/word"
)

// mostNested is the number of values within which a value is not shown any more.
const mostNested = 50

// The kinds of objects.
const (
	construct = 1
	function  = 2
	cell      = 3
)

// Word returns the text of the value of type t that a word represents.
func Word(v *vm.Machine, types []tree.Decl, w word.Word, t ty.Type) string {
	r := renderer{h: v.Heap(), types: types}
	r.value(w, t, 0)
	return string(r.b)
}

type renderer struct {
	h     *heap.Heap
	types []tree.Decl
	b     []byte
}

func (r *renderer) text(s string) {
	r.b = append(r.b, s...)
}

func (r *renderer) value(w word.Word, t ty.Type, within int) {
	if within >= mostNested {
		r.text("..")
		return
	}
	n, number := word.Int(w)
	switch {
	case t.Kind == 1 && number:
		r.b = strconv.AppendInt(r.b, n, 10)
	case t.Kind == 2 && number && (n == 0 || n == 1):
		r.b = strconv.AppendBool(r.b, n == 1)
	case t.Kind == 3 && number && n == 0:
		r.text("()")
	case t.Kind == 4:
		r.declared(w, t.Name, within)
	case t.Kind == 5 && r.is(w, function):
		r.text("<fun>")
	case t.Kind == 6 && r.is(w, cell):
		r.cell(w, t, within)
	case t.Kind == 7:
		r.text("<poly>")
	default:
		r.text("?")
	}
}

// is reports whether a word refers to an object of a kind; a cell has one word.
func (r *renderer) is(w word.Word, kind int) bool {
	k, _, size, err := r.h.Head(w)
	return err == api.OK && k == kind && (kind != cell || size == 1)
}

func (r *renderer) cell(w word.Word, t ty.Type, within int) {
	r.text("ref ")
	content, err := r.h.Get(w, 0)
	if err != api.OK || len(t.Args) != 1 {
		r.text("?")
		return
	}
	r.value(content, t.Args[0], within+1)
}

// declared writes a value of a declared type.
func (r *renderer) declared(w word.Word, name string, within int) {
	c, ok := r.con(w, name)
	if !ok {
		r.text("?")
		return
	}
	r.text(c.Name)
	for i, arg := range c.Args {
		if i == 0 {
			r.text(" (")
		} else {
			r.text(", ")
		}
		field, _ := r.h.Get(w, i)
		r.value(field, named(arg), within+1)
	}
	if len(c.Args) > 0 {
		r.text(")")
	}
}

// con returns the constructor of a value of the type of that name.
func (r *renderer) con(w word.Word, name string) (tree.Con, bool) {
	tag, args := 0, 0
	if n, ok := word.Int(w); ok {
		if n < 0 || n >= 1<<16 {
			return tree.Con{}, false
		}
		tag = int(n)
	} else {
		kind, t, size, err := r.h.Head(w)
		if err != api.OK || kind != construct || size == 0 {
			return tree.Con{}, false
		}
		tag, args = t, size
	}
	for _, d := range r.types {
		if d.Name == name && tag < len(d.Cons) && len(d.Cons[tag].Args) == args {
			return d.Cons[tag], true
		}
	}
	return tree.Con{}, false
}

func named(s string) ty.Type {
	switch s {
	case "int":
		return ty.Type{Kind: 1}
	case "bool":
		return ty.Type{Kind: 2}
	case "unit":
		return ty.Type{Kind: 3}
	}
	return ty.Type{Kind: 4, Name: s}
}

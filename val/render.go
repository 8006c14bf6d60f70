package val

import (
	"strconv"

	"hindsight/ty"
)

// mostNested is the number of values within which a value is not shown any more.
const mostNested = 50

// Render returns the text of a value of type t.
func Render(v Value, t ty.Type, cells []Value, cons []Arg) string {
	r := renderer{cells: cells, cons: cons}
	r.value(&v, t, 0)
	return string(r.b)
}

type renderer struct {
	cells []Value
	cons  []Arg
	b     []byte
}

func (r *renderer) text(s string) {
	r.b = append(r.b, s...)
}

func (r *renderer) value(v *Value, t ty.Type, within int) {
	if within >= mostNested {
		r.text("..")
		return
	}
	if t.Kind == 7 {
		r.text("<poly>")
		return
	}
	if t.Kind != v.Kind {
		r.text("?")
		return
	}
	switch v.Kind {
	case number:
		r.b = strconv.AppendInt(r.b, v.N, 10)
	case boolean:
		r.b = strconv.AppendBool(r.b, v.N == 1)
	case unit:
		r.text("()")
	case construct:
		r.construct(v, within)
	case function:
		r.text("<fun>")
	case cell:
		r.cell(v, t, within)
	default:
		r.text("?")
	}
}

func (r *renderer) cell(v *Value, t ty.Type, within int) {
	r.text("ref ")
	if v.At < 0 || v.At >= len(r.cells) || len(t.Args) != 1 {
		r.text("?")
		return
	}
	r.value(&r.cells[v.At], t.Args[0], within+1)
}

func (r *renderer) construct(v *Value, within int) {
	r.text(v.Name)
	if len(v.Args) == 0 {
		return
	}
	types := r.types(v.Name)
	for i := range v.Args {
		if i == 0 {
			r.text(" (")
		} else {
			r.text(", ")
		}
		if i < len(types) {
			r.value(&v.Args[i], named(types[i]), within+1)
		} else {
			r.text("?")
		}
	}
	r.text(")")
}

// types returns the types of the arguments of the first constructor of a name.
func (r *renderer) types(name string) []string {
	for i := range r.cons {
		if r.cons[i].Name == name {
			return r.cons[i].Types
		}
	}
	return nil
}

func named(s string) ty.Type {
	switch s {
	case "int":
		return ty.Type{Kind: 1}
	case "bool":
		return ty.Type{Kind: 2}
	case "unit":
		return ty.Type{Kind: 3}
	}
	return ty.Type{Kind: 4, Name: s}
}

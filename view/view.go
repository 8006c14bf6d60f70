// Package view looks at a machine as chapter 26 of the document says. Package show asks it once for
// each question; package debug keeps a view of its image, so that each stop is surveyed only once.
package view

import (
	"hindsight/api"
	"hindsight/image"
	"hindsight/info"
	"hindsight/plan"
	"hindsight/slot"
	"hindsight/ty"
	"hindsight/vm"
)

// View knows the variables of an image.
type View struct {
	m     image.Image
	p     *plan.Plan
	known map[int][]variable // by node
}

// variable is a name in scope.
type variable struct {
	name  string
	place slot.Place
	t     ty.Type
}

// Of returns the view of an image. The image is kept.
func Of(m image.Image) *View {
	return &View{m: m, known: map[int][]variable{}}
}

// Stop returns the stop at which a machine stands, if it stands at one.
func (w *View) Stop(v *vm.Machine) (info.Stop, bool) {
	return info.At(w.m.Table, v.PC())
}

// variables returns the variables in scope at a node.
func (w *View) variables(node int) []variable {
	if l, ok := w.known[node]; ok {
		return l
	}
	if w.p == nil {
		w.p = plan.Of(w.m.Tree)
	}
	var l []variable
	for _, name := range w.p.Scope(node) {
		place, _ := w.p.Where(node, name)
		by, param, _ := w.p.Binder(node, name)
		t := w.m.Types.Names[by]
		if param {
			t = w.m.Types.Params[by]
		}
		l = append(l, variable{name, slot.Place(place), t})
	}
	w.known[node] = l
	return l
}

// Local returns the text of a variable.
func (w *View) Local(v *vm.Machine, name string) (string, bool) {
	s, ok := w.Stop(v)
	if !ok {
		return "", false
	}
	for _, x := range w.variables(s.At) {
		if x.name == name {
			return w.text(v, x), true
		}
	}
	return "", false
}

// Locals returns the names in scope with the texts of their variables.
func (w *View) Locals(v *vm.Machine) []string {
	s, ok := w.Stop(v)
	if !ok {
		return nil
	}
	var l []string
	for _, x := range w.variables(s.At) {
		l = append(l, x.name+" = "+w.text(v, x))
	}
	return l
}

func (w *View) text(v *vm.Machine, x variable) string {
	word, err := v.Word(x.place)
	if err != api.OK {
		return "?"
	}
	return Word(v, w.m.Tree.Types, word, x.t)
}

// Result returns the text of the value of the program.
func (w *View) Result(v *vm.Machine) (string, bool) {
	word, ok := v.Result()
	if !ok {
		return "", false
	}
	return Word(v, w.m.Tree.Types, word, w.m.Types.Main), true
}

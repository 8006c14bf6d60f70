package image

import (
	"hindsight/chars"
	"hindsight/gen"
	"hindsight/infer"
	"hindsight/info"
	"hindsight/plan"
	"hindsight/tree"
	"hindsight/ty"
)

// table makes the debug information of a program.
func table(s string, t tree.Tree, x infer.Types, p gen.Program) info.Table {
	w := vars{p: plan.Of(t), x: x, texts: map[binder]int{}}
	var stops []info.Stop
	for _, m := range p.Marks {
		line, col := chars.Pos(s, t.Nodes[m.At].From)
		stops = append(stops, info.Stop{PC: m.PC, At: m.At, Line: line, Col: col})
		w.stop(m.PC, m.At)
	}
	if n := len(stops); n > 0 {
		w.end(stops[n-1].PC + 1)
	}
	return info.Table{Stops: stops, Vars: w.done}
}

// binder is what binds a variable.
type binder struct {
	node  int
	param bool
}

// vars collects the variables of one stop after the other. A variable that stays where it is from
// stop to stop is listed once.
type vars struct {
	p     *plan.Plan
	x     infer.Types
	texts map[binder]int // 1 plus the index of the text of a type in shown
	shown []string
	open  []info.Var
	done  []info.Var
}

func (w *vars) stop(pc, at int) {
	var now []info.Var
	for _, name := range w.p.Scope(at) {
		place, _ := w.p.Where(at, name)
		node, param, _ := w.p.Binder(at, name)
		v := info.Var{Name: name, Kind: place.Kind, N: place.N, Type: w.text(binder{node, param})}
		v.From = w.keep(v, pc)
		now = append(now, v)
	}
	w.end(pc)
	w.open = now
}

// keep returns from where a variable is valid: if it was so at the stop before, it is not listed for
// that one alone.
func (w *vars) keep(v info.Var, pc int) int {
	for i, o := range w.open {
		if o.Name != v.Name {
			continue
		}
		v.From = o.From
		if o == v {
			w.open[i].Name = ""
			return o.From
		}
	}
	return pc
}

// end lists the variables that are not valid any more.
func (w *vars) end(pc int) {
	for _, o := range w.open {
		if o.Name != "" {
			o.To = pc
			w.done = append(w.done, o)
		}
	}
	w.open = nil
}

// text returns the text of the type of a variable.
func (w *vars) text(b binder) string {
	if w.texts[b] == 0 {
		t := w.x.Names[b.node]
		if b.param {
			t = w.x.Params[b.node]
		}
		w.shown = append(w.shown, ty.Show(t))
		w.texts[b] = len(w.shown)
	}
	return w.shown[w.texts[b]-1]
}

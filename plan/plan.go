// Package plan tells where the variables of a valid tree are bound and stored: see DOC.md, chapter 13.
// Package slot answers single questions with it; those who have many of one tree ask it themselves.
package plan

import (
	"slices"

	"hindsight/tree"
)

// Fun is a function; Node is -1 for the root of the tree.
type Fun struct {
	Node        int
	Self, Param string
	Caught      []string
	Slots       int
}

// Place is where a variable is stored: 1 a slot, 2 the closure, 3 the function itself.
type Place struct{ Kind, N int }

// Plan is all that is known of the variables of a tree.
type Plan struct {
	Funs   []Fun
	Home   []int // for each node, the index in Funs of the function to whose body it belongs
	Inner  []int // for each function's node, its index in Funs
	nodes  []tree.Node
	parent []int
	child  []int // for each node, its index among the children of its parent
	slot   []int // for each node that binds a name in its home, the slot
}

// Of makes the plan of a valid tree.
func Of(t tree.Tree) *Plan {
	n := len(t.Nodes)
	p := &Plan{
		Funs: []Fun{{Node: -1}}, nodes: t.Nodes,
		Home: make([]int, n), Inner: make([]int, n), parent: make([]int, n), child: make([]int, n), slot: make([]int, n),
	}
	p.parent[0] = -1
	for at := range t.Nodes {
		p.visit(at)
	}
	for at, n := range t.Nodes {
		if n.Kind == 4 {
			p.catch(at, n.Name)
		}
	}
	for i := range p.Funs {
		f := &p.Funs[i]
		slices.Sort(f.Caught)
		f.Caught = slices.Compact(f.Caught)
	}
	return p
}

// visit settles the home of the children of a node, and the slot of what it binds. Nodes are visited
// in preorder, so that functions and slots are numbered in it.
func (p *Plan) visit(at int) {
	n := p.nodes[at]
	home := p.Home[at]
	for i, k := range n.Kids {
		p.parent[k], p.child[k], p.Home[k] = at, i, home
	}
	switch n.Kind {
	case 8, 9, 20, 22:
		p.slot[at] = p.Funs[home].Slots
		p.Funs[home].Slots++
	}
	if n.Kind == 6 || n.Kind == 9 {
		p.Inner[at] = len(p.Funs)
		p.Home[n.Kids[0]] = len(p.Funs)
		p.Funs = append(p.Funs, Fun{Node: at, Self: n.Name, Param: n.Param, Slots: 1})
	}
}

// catch lets all functions between a variable and its binder capture it.
func (p *Plan) catch(at int, name string) {
	for up := p.parent[at]; up >= 0; at, up = up, p.parent[up] {
		if node, _ := p.binds(up, p.child[at], name); node >= 0 {
			return
		}
		if p.Home[at] != p.Home[up] {
			f := &p.Funs[p.Home[at]]
			f.Caught = append(f.Caught, name)
		}
	}
}

// binds returns the node that binds a name at node up for its i-th child, or -1, and whether it is
// bound by Param.
func (p *Plan) binds(up, i int, name string) (node int, param bool) {
	n := &p.nodes[up]
	if n.Param == name && (n.Kind == 20) == (i == 1) {
		return up, true
	}
	switch n.Kind {
	case 8:
		if i == 1 && n.Name == name {
			return up, false
		}
	case 9:
		if n.Name == name {
			return up, false
		}
	case 11:
		if i > 0 && i%2 == 0 {
			return p.inPattern(n.Kids[i-1], name), false
		}
	}
	return -1, false
}

// inPattern returns the node of the variable of that name in a pattern, or -1.
func (p *Plan) inPattern(at int, name string) int {
	n := &p.nodes[at]
	if n.Kind == 22 && n.Name == name {
		return at
	}
	for _, k := range n.Kids {
		if node := p.inPattern(k, name); node >= 0 {
			return node
		}
	}
	return -1
}

// Binder returns the node that binds a name for a node.
func (p *Plan) Binder(at int, name string) (node int, param, ok bool) {
	if name == "" {
		return 0, false, false
	}
	for up := p.parent[at]; up >= 0; at, up = up, p.parent[up] {
		if node, param := p.binds(up, p.child[at], name); node >= 0 {
			return node, param, true
		}
	}
	return 0, false, false
}

// Where returns the place of a variable for the code of a node.
func (p *Plan) Where(at int, name string) (Place, bool) {
	node, param, ok := p.Binder(at, name)
	if !ok {
		return Place{}, false
	}
	home := p.Home[at]
	own := &p.Funs[home]
	if owner, slot := p.slotOf(node, param); owner == home {
		return Place{1, slot}, true
	}
	if node == own.Node && !param {
		return Place{Kind: 3}, true
	}
	if i, ok := slices.BinarySearch(own.Caught, name); ok {
		return Place{2, i}, true
	}
	return Place{}, false
}

// Slot returns the slot of the name that a node of Kind 8, 9, 20 or 22 binds in its home.
func (p *Plan) Slot(at int) int { return p.slot[at] }

// slotOf returns the function (as an index in Funs) and the slot in which a binder stores its variable.
func (p *Plan) slotOf(node int, param bool) (home, slot int) {
	if k := p.nodes[node].Kind; param && (k == 6 || k == 9) {
		return p.Inner[node], 0
	}
	return p.Home[node], p.slot[node]
}

// Scope returns the names that have a place at a node, beginning with the nearest binder.
func (p *Plan) Scope(at int) []string {
	seen := map[string]int{}
	var l []string
	see := func(name string) {
		if _, hidden := seen[name]; hidden {
			return
		}
		seen[name] = len(l)
		if _, ok := p.Where(at, name); ok {
			l = append(l, name)
		}
	}
	for k, up := at, p.parent[at]; up >= 0; k, up = up, p.parent[up] {
		for _, name := range p.bound(up, p.child[k]) {
			see(name)
		}
	}
	return l
}

// bound returns the names that a node binds for its i-th child, the nearest one first.
func (p *Plan) bound(up, i int) []string {
	n := p.nodes[up]
	switch {
	case n.Kind == 6, n.Kind == 20 && i == 1:
		return []string{n.Param}
	case n.Kind == 9 && i == 0:
		return []string{n.Param, n.Name}
	case n.Kind == 8 && i == 1, n.Kind == 9:
		return []string{n.Name}
	case n.Kind == 11 && i > 0 && i%2 == 0:
		l := p.variables(n.Kids[i-1], nil)
		slices.Reverse(l)
		return l
	}
	return nil
}

// variables adds the variables of a pattern to l.
func (p *Plan) variables(at int, l []string) []string {
	n := p.nodes[at]
	if n.Kind == 22 {
		return append(l, n.Name)
	}
	for _, k := range n.Kids {
		l = p.variables(k, l)
	}
	return l
}

package samples

// any writes an expression of a kind.
func (g *grower) any(kind byte, deep int) {
	if deep > 0 && g.pick(3) == 0 && kind != 'f' && kind != 'c' {
		g.around(kind, deep-1)
		return
	}
	switch kind {
	case 'i':
		g.number(deep)
	case 'b':
		g.boolean(deep)
	case 'u':
		g.unit(deep)
	case 'l':
		g.list(deep)
	case 'f':
		g.function(deep)
	case 'c':
		g.cell(deep)
	}
}

// around writes an expression that may be of each kind.
func (g *grower) around(kind byte, deep int) {
	g.put("(")
	switch g.pick(6) {
	case 0:
		g.put("if ")
		g.any('b', deep)
		g.put(" then ")
		g.any(kind, deep)
		g.put(" else ")
		g.any(kind, deep)
	case 1:
		was := len(g.names)
		g.bind(deep)
		g.put(" in ")
		g.any(kind, deep)
		g.names = g.names[:was]
	case 2:
		g.put("match ")
		g.any('l', deep)
		h, t := g.new(), "t"+string([]byte{byte('a' + g.pick(26))})
		g.put(" with N -> ")
		g.any(kind, deep)
		g.put(" | C (", h, ", ", t, ") -> ")
		g.with(kind, deep, name{h, 'i'}, name{t, 'l'})
		g.put(" end")
	case 3:
		n := g.new()
		g.put("try ")
		g.any(kind, deep)
		g.put(" with ", n, " -> ")
		g.with(kind, deep, name{n, 'i'})
		g.put(" end")
	case 4:
		g.any('u', deep)
		g.put(" ; ")
		g.any(kind, deep)
	case 5:
		g.put("if ")
		g.any('b', deep)
		g.put(" then raise ")
		g.any('i', 0)
		g.put(" else ")
		g.any(kind, deep)
	}
	g.put(")")
}

func (g *grower) number(deep int) {
	if deep <= 0 || g.pick(4) == 0 {
		if g.pick(3) == 0 || !g.find('i') {
			g.put(string([]byte{byte('0' + g.pick(10))}))
		}
		return
	}
	g.put("(")
	switch g.pick(5) {
	case 0, 1:
		g.any('i', deep-1)
		g.put([]string{" + ", " - ", " * "}[g.pick(3)])
		g.any('i', deep-1)
	case 2:
		g.function(deep - 1)
		g.put(" ")
		g.atom(deep - 1)
	case 3:
		if g.find('r') {
			g.put(" ", string([]byte{byte('0' + g.pick(5))}))
		} else {
			g.put("read")
		}
	case 4:
		g.put("! ")
		g.cell(deep - 1)
	}
	g.put(")")
}

// atom writes a number in parentheses.
func (g *grower) atom(deep int) {
	g.put("(")
	g.any('i', deep)
	g.put(")")
}

func (g *grower) boolean(deep int) {
	if deep <= 0 || g.pick(4) == 0 {
		if !g.find('b') {
			g.put([]string{"true", "false"}[g.pick(2)])
		}
		return
	}
	g.put("(")
	g.any('i', deep-1)
	g.put([]string{" < ", " = "}[g.pick(2)])
	g.any('i', deep-1)
	g.put(")")
}

func (g *grower) unit(deep int) {
	if deep <= 0 {
		g.put("()")
		return
	}
	if g.pick(3) == 0 {
		g.put("(")
		g.cell(deep - 1)
		g.put(" := ")
		g.any('i', deep-1)
		g.put(")")
		return
	}
	g.put("print ")
	g.atom(deep - 1)
}

func (g *grower) list(deep int) {
	if deep <= 0 || g.pick(3) == 0 {
		if !g.find('l') {
			g.put("N")
		}
		return
	}
	g.put("C (")
	g.any('i', deep-1)
	g.put(", ")
	g.any('l', deep-1)
	g.put(")")
}

func (g *grower) function(deep int) {
	if g.pick(2) == 0 && g.find('f') {
		return
	}
	n := g.new()
	g.put("(fun ", n, " -> ")
	g.with('i', deep-1, name{n, 'i'})
	g.put(")")
}

func (g *grower) cell(deep int) {
	if g.pick(4) > 0 && g.find('c') {
		return
	}
	g.put("(ref ")
	g.atom(deep - 1)
	g.put(")")
}

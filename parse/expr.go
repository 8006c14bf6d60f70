package parse

import (
	"strconv"

	"hindsight/lex"
	"hindsight/tree"
)

func (p *parser) expr() *part {
	a := p.set()
	if p.accept(";") {
		return pair(12, "", a, p.expr())
	}
	return a
}

func (p *parser) set() *part {
	a := p.cmp()
	if p.accept(":=") {
		return pair(13, "", a, p.set())
	}
	return a
}

func (p *parser) cmp() *part {
	a := p.sum()
	if p.is("<") || p.is("=") {
		op := p.take().Text
		return pair(14, op, a, p.sum())
	}
	return a
}

func (p *parser) sum() *part {
	a := p.mul()
	for p.is("+") || p.is("-") {
		op := p.take().Text
		a = pair(14, op, a, p.mul())
	}
	return a
}

func (p *parser) mul() *part {
	a := p.app()
	for p.accept("*") {
		a = pair(14, "*", a, p.app())
	}
	return a
}

func (p *parser) app() *part {
	a := p.pre()
	for p.begins() {
		a = pair(7, "", a, p.pre())
	}
	return a
}

// begins reports whether the next token begins an operand.
func (p *parser) begins() bool {
	w := p.peek(0)
	switch w.Kind {
	case 1, 3:
		return true
	case 2:
		return w.Text != "_"
	}
	switch w.Text {
	case "(", "!", "ref", "print", "raise", "true", "false", "read", "fun", "let", "if", "match", "try":
		return true
	}
	return false
}

func (p *parser) pre() *part {
	kind := 0
	switch p.peek(0).Text {
	case "ref":
		kind = 15
	case "!":
		kind = 16
	case "print":
		kind = 17
	case "raise":
		kind = 19
	default:
		return p.atom()
	}
	w := p.take()
	return from(w, tree.Node{Kind: kind}, p.pre())
}

func (p *parser) atom() *part {
	if !p.begins() {
		p.fail()
		return &part{}
	}
	w := p.take()
	switch w.Kind {
	case 1:
		return number(w, 1)
	case 2:
		return over(w, w, tree.Node{Kind: 4, Name: w.Text})
	case 3:
		return p.construct(w)
	}
	switch w.Text {
	case "true":
		return over(w, w, tree.Node{Kind: 2, N: 1})
	case "false":
		return over(w, w, tree.Node{Kind: 2})
	case "read":
		return over(w, w, tree.Node{Kind: 18})
	case "(":
		return p.group(w)
	}
	return p.long(w)
}

// number makes a literal; the lexer has made sure that its value is one.
func number(w lex.Word, kind int) *part {
	n, _ := strconv.ParseInt(w.Text, 10, 64)
	return over(w, w, tree.Node{Kind: kind, N: n})
}

func (p *parser) construct(w lex.Word) *part {
	n := tree.Node{Kind: 5, Name: w.Text}
	if !p.is("(") || p.peek(1).Text == ")" {
		return over(w, w, n)
	}
	p.take()
	kids := []*part{p.expr()}
	for p.accept(",") {
		kids = append(kids, p.expr())
	}
	return over(w, p.want(")"), n, kids...)
}

// group reads what follows a parenthesis that encloses an expression or stands for unit.
func (p *parser) group(w lex.Word) *part {
	if p.is(")") {
		return over(w, p.take(), tree.Node{Kind: 3})
	}
	a := p.expr()
	p.want(")")
	return a
}

// long reads what follows a keyword that begins an expression.
func (p *parser) long(w lex.Word) *part {
	switch w.Text {
	case "fun":
		n := tree.Node{Kind: 6, Param: p.name()}
		p.want("->")
		return from(w, n, p.expr())
	case "let":
		return p.let(w)
	case "if":
		a := p.expr()
		p.want("then")
		b := p.expr()
		p.want("else")
		return from(w, tree.Node{Kind: 10}, a, b, p.expr())
	case "match":
		return p.match(w)
	}
	a := p.expr()
	p.want("with")
	n := tree.Node{Kind: 20, Param: p.name()}
	p.want("->")
	b := p.expr()
	return over(w, p.want("end"), n, a, b)
}

func (p *parser) let(w lex.Word) *part {
	n := tree.Node{Kind: 8}
	if p.accept("rec") {
		n.Kind, n.Name = 9, p.name()
		n.Param = p.name()
	} else {
		n.Name = p.name()
	}
	p.want("=")
	a := p.expr()
	p.want("in")
	return from(w, n, a, p.expr())
}

func (p *parser) match(w lex.Word) *part {
	kids := []*part{p.expr()}
	p.want("with")
	kids = p.alternative(kids)
	for p.accept("|") {
		kids = p.alternative(kids)
	}
	return over(w, p.want("end"), tree.Node{Kind: 11}, kids...)
}

func (p *parser) alternative(kids []*part) []*part {
	kids = append(kids, p.pattern())
	p.want("->")
	return append(kids, p.expr())
}

func (p *parser) pattern() *part {
	w := p.peek(0)
	switch {
	case w.Kind == 1:
		return number(p.take(), 23)
	case w.Kind == 2 && w.Text == "_":
		return over(w, p.take(), tree.Node{Kind: 21})
	case w.Kind == 2:
		return over(w, p.take(), tree.Node{Kind: 22, Name: w.Text})
	case w.Kind == 3:
		return p.conPattern(p.take())
	}
	switch w.Text {
	case "true":
		return over(w, p.take(), tree.Node{Kind: 24, N: 1})
	case "false":
		return over(w, p.take(), tree.Node{Kind: 24})
	}
	p.want("(")
	return over(w, p.want(")"), tree.Node{Kind: 25})
}

func (p *parser) conPattern(w lex.Word) *part {
	n := tree.Node{Kind: 26, Name: w.Text}
	if !p.accept("(") {
		return over(w, w, n)
	}
	kids := []*part{p.pattern()}
	for p.accept(",") {
		kids = append(kids, p.pattern())
	}
	return over(w, p.want(")"), n, kids...)
}

package parse

import "indenture/api"

// binding is how much an operator binds; 0, if a token is none of two operands.
func binding(t api.Tok) int {
	if t.Kind != api.TOp {
		return 0
	}
	switch t.Text {
	case "||":
		return 1
	case "&&":
		return 2
	case "==", "!=", "<", "<=", ">", ">=":
		return 3
	case "+", "-", "|", "^":
		return 4
	case "*", "/", "%", "&", "<<", ">>":
		return 5
	}
	return 0
}

// expr is rule 14: as far as what is behind binds more than that.
func (p *parser) expr(than int) int {
	p.begin()
	defer p.end()
	x := p.unary()
	for {
		bind := binding(p.tok())
		if bind <= than {
			return x
		}
		op := p.take().Text
		y := p.expr(bind)
		x = p.node(api.NBinary, op, p.nodes[x].At, x, y)
	}
}

// unary is rule 15.
func (p *parser) unary() int {
	p.begin()
	defer p.end()
	if p.is("+", "-", "!", "^", "*") {
		op := p.take()
		return p.node(api.NUnary, op.Text, op.At, p.unary())
	}
	return p.primary()
}

// primary is rule 16.
func (p *parser) primary() int {
	x := p.operand()
	at := p.nodes[x].At
	whole := func() int { return p.expr(0) }
	for {
		switch {
		case p.is("."):
			p.take()
			x = p.node(api.NSel, p.name().Text, at, x)
		case p.is("("):
			p.take()
			args := p.listOrNone(")", whole)
			x = p.node(api.NCall, "", at, append([]int{x}, args...)...)
		case p.is("["):
			p.take()
			args := p.list("]", whole)
			x = p.node(api.NIndex, "", at, append([]int{x}, args...)...)
		default:
			return x
		}
	}
}

// operand is rule 17.
func (p *parser) operand() int {
	t := p.tok()
	switch t.Kind {
	case api.TName:
		return p.leaf(api.NName)
	case api.TInt:
		return p.leaf(api.NInt)
	case api.TFloat:
		return p.leaf(api.NFloat)
	case api.TRune:
		return p.leaf(api.NRune)
	case api.TString:
		return p.leaf(api.NString)
	}
	if p.is("(") {
		p.take()
		x := p.expr(0)
		p.want(")")
		return p.node(api.NParen, "", t.At, x)
	}
	if !p.is("[", "map", "func", "struct", "interface") {
		p.fail(api.ErrSyntax)
	}
	return p.bareType()
}

// leaf is a node of the token that stands there.
func (p *parser) leaf(kind int) int {
	t := p.take()
	return p.node(kind, t.Text, t.At)
}

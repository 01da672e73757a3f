package parse

import "indenture/api"

// typ is rule 9, where it counts how deep.
func (p *parser) typ() int {
	p.begin()
	defer p.end()
	return p.bareType()
}

// bareType is rule 9.
func (p *parser) bareType() int {
	at := p.tok().At
	switch {
	case p.is("*"):
		p.take()
		return p.node(api.NUnary, "*", at, p.typ())
	case p.is("("):
		p.take()
		t := p.typ()
		p.want(")")
		return p.node(api.NParen, "", at, t)
	case p.is("["):
		return p.row()
	case p.is("map"):
		p.take()
		p.want("[")
		from := p.typ()
		p.want("]")
		return p.node(api.NMap, "", at, from, p.typ())
	case p.is("func"):
		p.take()
		return p.function(at)
	case p.is("struct"):
		p.take()
		return p.node(api.NStruct, "", at, p.block(p.field)...)
	case p.is("interface"):
		p.take()
		return p.node(api.NIface, "", at, p.block(p.elem)...)
	}
	return p.named()
}

// row is a slice's type, or an array's.
func (p *parser) row() int {
	at := p.take().At
	if p.is("]") {
		p.take()
		return p.node(api.NSlice, "", at, p.typ())
	}
	many := p.expr(0)
	p.want("]")
	return p.node(api.NArray, "", at, many, p.typ())
}

// named is rule 10.
func (p *parser) named() int {
	name := p.name()
	t := p.node(api.NName, name.Text, name.At)
	if p.is(".") {
		p.take()
		t = p.node(api.NSel, p.name().Text, name.At, t)
	}
	if p.is("[") {
		p.take()
		args := p.list("]", p.typ)
		t = p.node(api.NIndex, "", name.At, append([]int{t}, args...)...)
	}
	return t
}

// field is rule 11.
func (p *parser) field() int {
	at := p.tok().At
	if p.is("*") {
		return p.node(api.NField, "", at, p.typ())
	}
	b := p.behind(1)
	if p.isName() && (mark(b, ";") || mark(b, "\n") || mark(b, "}") || mark(b, ".")) {
		return p.node(api.NField, "", at, p.named())
	}
	name := p.name().Text
	return p.node(api.NField, name, at, p.typ())
}

// elem is rule 12.
func (p *parser) elem() int {
	if p.isName() && mark(p.behind(1), "(") {
		name := p.take()
		return p.node(api.NMethod, name.Text, name.At, p.function(p.tok().At))
	}
	return p.union()
}

// union is the first half of rule 13.
func (p *parser) union() int {
	p.begin()
	defer p.end()
	at := p.tok().At
	kids := []int{p.term()}
	for p.is("|") {
		p.take()
		kids = append(kids, p.term())
	}
	return p.node(api.NUnion, "", at, kids...)
}

// term is the other half of it.
func (p *parser) term() int {
	at := p.tok().At
	text := ""
	if p.is("~") {
		text = p.take().Text
	}
	return p.node(api.NTerm, text, at, p.typ())
}

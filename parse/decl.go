package parse

import "indenture/api"

// file is rule 1.
func (p *parser) file() {
	at := p.want("package")
	name := p.name().Text
	p.wantSemi()
	var kids []int
	for p.is("import") {
		at := p.take().At
		kids = append(kids, p.node(api.NImport, p.wantKind(api.TString).Text, at))
		p.wantSemi()
	}
	for p.tok().Kind != api.TEnd {
		kids = append(kids, p.decl())
		p.wantSemi()
	}
	p.node(api.NFile, name, at, kids...)
}

// decl is rule 2.
func (p *parser) decl() int {
	switch {
	case p.is("const"):
		return p.constant()
	case p.is("var"):
		return p.variable()
	case p.is("type"):
		return p.typeDecl()
	case p.is("func"):
		return p.funcDecl()
	}
	p.fail(api.ErrSyntax)
	return 0
}

func (p *parser) constant() int {
	at := p.take().At
	name := p.name().Text
	t := p.typeUnless("=")
	p.want("=")
	return p.node(api.NConst, name, at, t, p.expr(0))
}

// typeUnless is a type, but where a token stands that tells that it is left out.
func (p *parser) typeUnless(text string) int {
	if p.is(text) {
		return p.none()
	}
	return p.typ()
}

func (p *parser) variable() int {
	at := p.take().At
	name := p.name().Text
	t := p.typeUnless("=")
	var v int
	if p.is("=") {
		p.take()
		v = p.expr(0)
	} else {
		v = p.none()
	}
	return p.node(api.NVar, name, at, t, v)
}

// typeDecl is rule 4.
func (p *parser) typeDecl() int {
	at := p.take().At
	name := p.name().Text
	third := p.behind(2)
	params := p.is("[") && p.behind(1).Kind == api.TName &&
		(third.Kind == api.TName || mark(third, "~") || mark(third, "interface"))
	kid := p.types(params)
	return p.node(api.NType, name, at, kid, p.typ())
}

// types are type params, if they are there.
func (p *parser) types(there bool) int {
	at := p.tok().At
	if !there {
		return p.node(api.NTypes, "", at)
	}
	p.want("[")
	kids := p.list("]", func() int {
		name := p.name()
		return p.node(api.NOf, name.Text, name.At, p.union())
	})
	return p.node(api.NTypes, "", at, kids...)
}

// funcDecl is rule 5.
func (p *parser) funcDecl() int {
	at := p.take().At
	recv := p.receiver()
	name := p.name().Text
	types := p.types(p.is("["))
	function := p.function(p.tok().At)
	return p.node(api.NDecl, name, at, recv, types, function, p.body())
}

func (p *parser) receiver() int {
	if !p.is("(") {
		return p.none()
	}
	at := p.take().At
	name := p.name().Text
	t := p.typ()
	p.want(")")
	return p.node(api.NRecv, name, at, t)
}

// function is rule 7.
func (p *parser) function(at int) int {
	p.want("(")
	kids := p.listOrNone(")", func() int {
		name := p.name()
		return p.node(api.NParam, name.Text, name.At, p.typ())
	})
	if p.isName() || p.is("*", "[", "(", "map", "func", "struct", "interface") {
		kids = append(kids, p.typ())
	} else {
		kids = append(kids, p.none())
	}
	return p.node(api.NFunc, "", at, kids...)
}

// body is rule 8.
func (p *parser) body() int {
	at := p.want("{")
	back := p.is("return")
	if back {
		p.take()
	}
	var v int
	if !back || p.semi() || p.is("}") {
		v = p.none()
	} else {
		v = p.expr(0)
	}
	if back && p.semi() {
		p.take()
	}
	p.want("}")
	return p.node(api.NBody, "", at, v)
}

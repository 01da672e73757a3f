package decl

import (
	"cmp"
	"slices"
	"strings"

	"indenture/api"
	"indenture/typ"
)

// resolve makes the world of a program.
func (m *maker) resolve() {
	m.countTypes()
	m.startUnit()
	m.inOrder(m.declareType)
	for _, d := range m.Prog.Decls {
		if d.Kind == api.DMethod {
			m.declareMethod(d)
		}
	}
	for _, i := range m.types() {
		if d := m.Prog.Decls[i]; m.hasItself(d) {
			m.fail(d.File, d.Node, api.ErrCycle)
		}
	}
	for _, d := range m.Prog.Decls {
		m.Objs = append(m.Objs, m.object(d))
	}
}

// countTypes tells what is wrong with type params, and how many types there are.
func (m *maker) countTypes() {
	for n, i := range m.types() {
		d := m.Prog.Decls[i]
		m.countParams(d)
		if n >= api.MaxNamed {
			m.fail(d.File, d.Node, api.ErrMany)
		}
	}
}

func (m *maker) countParams(d api.Decl) {
	names, at := m.params(d)
	if twice(names) {
		m.fail(d.File, at, api.ErrTwice)
	}
	if len(names) > api.MaxKids {
		m.fail(d.File, d.Node, api.ErrMany)
	}
}

// startUnit is the unit in which nothing is told of the declared types but their names and how many type params they have.
func (m *maker) startUnit() {
	m.Unit.Types = typ.Start()
	empty := m.put(0, 0, api.Type{Kind: api.KStruct})
	for _, i := range m.types() {
		d := m.Prog.Decls[i]
		if names, _ := m.params(d); d.Name != "_" {
			m.Unit.Named = append(m.Unit.Named, api.Named{Name: fullName(d), Bounds: anys(len(names)), Under: empty})
		}
	}
	slices.SortFunc(m.Unit.Named, func(a, b api.Named) int { return strings.Compare(a.Name, b.Name) })
}

// anys are bounds that bind nothing.
func anys(n int) []int {
	return slices.Repeat([]int{api.YAny}, n)
}

// spotOf is where a type's or a function's parts stand.
func (m *maker) spotOf(d api.Decl, bounds []int, closely bool) spot {
	names, _ := m.params(d)
	return spot{api.Ctx{Pkg: d.Pkg, File: d.File, Params: names, Bounds: bounds}, closely}
}

// constraints are those of type params; looked at closely, each one's is bound by those that are told so far, if grow says so.
func (m *maker) constraints(s spot, i int, grow bool) []int {
	var l []int
	for n, k := range m.node(s.File, i).Kids {
		c := m.constraint(s, m.node(s.File, k).Kids[0])
		l = append(l, c)
		if grow {
			s.Bounds = slices.Clone(s.Bounds)
			s.Bounds[n] = c
		}
	}
	return l
}

// declareType tells what a declared type is, and what its type params are bound by.
func (m *maker) declareType(d api.Decl) {
	s := m.spotOf(d, nil, false)
	kids := m.node(d.File, d.Node).Kids
	bounds := m.constraints(s, kids[0], false)
	t := m.typeOf(s, kids[1])
	form, at := m.under(d.File, kids[1], t)
	if form.Kind == api.KParam {
		m.fail(d.File, kids[1], api.ErrType)
	}
	if d.Name == "_" {
		return
	}
	m.change(d, func(n *api.Named) { n.Bounds, n.Under = bounds, at })
}

// change changes a declared type's Named, in new memory.
func (m *maker) change(d api.Decl, do func(*api.Named)) {
	m.Unit.Named = slices.Clone(m.Unit.Named)
	do(m.named(fullName(d)))
}

// receiver is a method's type.
func (m *maker) receiver(d api.Decl) api.Decl {
	return m.Prog.Decls[m.places[label{d.Pkg, d.Recv}]]
}

// methodParams are the type params' names of a method.
func (m *maker) methodParams(d api.Decl) []string {
	recv := m.node(d.File, m.node(d.File, d.Node).Kids[0])
	n := m.node(d.File, recv.Kids[0])
	at := recv.Kids[0]
	if n.Kind == api.NUnary {
		at = n.Kids[0]
	}
	if m.node(d.File, at).Kind != api.NIndex {
		return nil
	}
	return m.texts(d.File, at)[1:]
}

// declareMethod tells a type one of its methods.
func (m *maker) declareMethod(d api.Decl) {
	kids := m.node(d.File, d.Node).Kids
	recv, function := kids[0], kids[2]
	names, of := m.methodParams(d), m.receiver(d)
	if twice(names) {
		m.fail(d.File, recv, api.ErrTwice)
	}
	if all, _ := m.params(of); len(all) != len(names) {
		m.fail(d.File, recv, api.ErrType)
	}
	sig := m.typeOf(spot{api.Ctx{Pkg: d.Pkg, File: d.File, Params: names}, false}, function)
	n := m.named(fullName(of))
	under := m.Unit.Types[n.Under]
	if under.Kind == api.KIface || under.Kind == api.KPtr {
		m.fail(d.File, recv, api.ErrType)
	}
	if under.Kind == api.KStruct && slices.ContainsFunc(under.Words, func(w string) bool { return strings.TrimPrefix(w, "+") == d.Name }) {
		m.fail(d.File, d.Node, api.ErrTwice)
	}
	if d.Name == "_" {
		return
	}
	if len(n.Methods) == api.MaxKids {
		m.fail(d.File, d.Node, api.ErrMany)
	}
	pointer := m.node(d.File, m.node(d.File, recv).Kids[0]).Kind == api.NUnary
	methods := append(slices.Clone(n.Methods), api.Method{Name: d.Name, Ptr: pointer, Sig: sig})
	slices.SortFunc(methods, func(a, b api.Method) int { return cmp.Compare(a.Name, b.Name) })
	m.change(of, func(n *api.Named) { n.Methods = methods })
}

// object looks closely at what a declaration has, and tells what it declares.
func (m *maker) object(d api.Decl) api.Obj {
	kids := m.node(d.File, d.Node).Kids
	switch d.Kind {
	case api.DType:
		return m.typeObject(d)
	case api.DMethod:
		bounds := m.named(fullName(m.receiver(d))).Bounds
		s := spot{api.Ctx{Pkg: d.Pkg, File: d.File, Params: m.methodParams(d), Bounds: bounds}, true}
		return api.Obj{Type: m.typeOf(s, kids[2]), Bounds: slices.Clone(bounds)}
	case api.DFunc:
		m.countParams(d)
		s := m.spotOf(d, nil, true)
		s.Bounds = anys(len(s.Params))
		s.Bounds = m.constraints(s, kids[1], true)
		return api.Obj{Type: m.typeOf(s, kids[2]), Bounds: s.Bounds}
	}
	if m.node(d.File, kids[0]).Kind == api.NNone {
		return api.Obj{Type: -1}
	}
	return api.Obj{Type: m.typeOf(m.spotOf(d, nil, true), kids[0])}
}

// typeObject is what a type's declaration declares.
func (m *maker) typeObject(d api.Decl) api.Obj {
	kids := m.node(d.File, d.Node).Kids
	names, _ := m.params(d)
	bounds := anys(len(names))
	if d.Name != "_" {
		bounds = m.named(fullName(d)).Bounds
	}
	told := m.constraints(m.spotOf(d, bounds, true), kids[0], false)
	m.bareType(m.spotOf(d, told, true), kids[1])
	o := api.Obj{Type: -1, Bounds: told}
	if d.Name == "_" {
		return o
	}
	t := api.Type{Kind: api.KNamed, Name: fullName(d)}
	for i := range names {
		t.Kids = append(t.Kids, m.put(d.File, d.Node, api.Type{Kind: api.KParam, N: i}))
	}
	o.Type = m.put(d.File, d.Node, t)
	return o
}

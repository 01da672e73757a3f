package decl

import (
	"slices"

	"indenture/api"
)

// told is the place of the type's declaration that an NName or an NSel of a declaration tells, public or not; -1, if it tells none.
func (m *maker) told(d api.Decl, params []string, i int) int {
	n := m.node(d.File, i)
	l := label{d.Pkg, n.Text}
	switch n.Kind {
	case api.NName:
		if slices.Contains(params, n.Text) {
			return -1
		}
	case api.NSel:
		x := m.node(d.File, n.Kids[0])
		_, here := m.places[label{d.Pkg, x.Text}]
		if x.Kind != api.NName || slices.Contains(params, x.Text) || here || !slices.Contains(m.Prog.Files[d.File].Imports, x.Text) {
			return -1
		}
		l.pkg = x.Text
	default:
		return -1
	}
	at, ok := m.places[l]
	if !ok || m.Prog.Decls[at].Kind != api.DType {
		return -1
	}
	return at
}

// before are the places of the types whose declarations are before one's.
func (m *maker) before(d api.Decl) []int {
	params, _ := m.params(d)
	var l []int
	var walk func(i int, within bool)
	walk = func(i int, within bool) {
		n := m.node(d.File, i)
		if within {
			l = append(l, m.told(d, params, i))
		}
		for _, k := range n.Kids {
			walk(k, within || n.Kind == api.NTerm)
		}
	}
	walk(d.Node, false)
	itself := m.node(d.File, d.Node).Kids[1]
	for n := m.node(d.File, itself); n.Kind == api.NParen || n.Kind == api.NIndex; n = m.node(d.File, itself) {
		itself = n.Kids[0]
	}
	l = append(l, m.told(d, params, itself))
	return slices.DeleteFunc(l, func(at int) bool { return at < 0 })
}

// types are the places of the types' declarations.
func (m *maker) types() []int {
	var l []int
	for i, d := range m.Prog.Decls {
		if d.Kind == api.DType {
			l = append(l, i)
		}
	}
	return l
}

// inOrder does a thing with each type's declaration, behind those that are before it.
func (m *maker) inOrder(do func(d api.Decl)) {
	types := m.types()
	taken := make([]bool, len(m.Prog.Decls))
	befores := make([][]int, len(m.Prog.Decls))
	for _, i := range types {
		befores[i] = m.before(m.Prog.Decls[i])
	}
	ready := func(i int) bool {
		return !taken[i] && !slices.ContainsFunc(befores[i], func(b int) bool { return !taken[b] })
	}
	for range types {
		n := slices.IndexFunc(types, ready)
		if n < 0 {
			n = slices.IndexFunc(types, func(i int) bool { return !taken[i] })
			d := m.Prog.Decls[types[n]]
			m.fail(d.File, d.Node, api.ErrCycle)
		}
		taken[types[n]] = true
		do(m.Prog.Decls[types[n]])
	}
}

// hasItself tells whether a declared type has itself, through structs and arrays.
func (m *maker) hasItself(d api.Decl) bool {
	if d.Name == "_" {
		return false
	}
	seen := make([]bool, len(m.Unit.Types))
	found := false
	var walk func(i int)
	walk = func(i int) {
		if seen[i] {
			return
		}
		seen[i] = true
		t := m.Unit.Types[i]
		switch t.Kind {
		case api.KStruct, api.KArray:
			for _, k := range t.Kids {
				walk(k)
			}
		case api.KNamed:
			found = found || t.Name == fullName(d)
			walk(m.named(t.Name).Under)
		}
	}
	walk(m.named(fullName(d)).Under)
	return found
}

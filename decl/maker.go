package decl

import (
	"slices"

	"indenture/api"
	"indenture/unit"
)

// fault is what is panicked.
type fault struct{ bad api.Bad }

// label is what declarations are sought by.
type label struct{ pkg, name string }

// maker makes a world: places are those of its declarations, but of methods.
type maker struct {
	api.World
	places map[label]int
}

// spot is where something stands, and whether it is looked at closely.
type spot struct {
	api.Ctx
	closely bool
}

func newMaker(w api.World) *maker {
	m := &maker{w, make(map[label]int)}
	for i, d := range w.Prog.Decls {
		if d.Kind != api.DMethod {
			m.places[label{d.Pkg, d.Name}] = i
		}
	}
	return m
}

// attempt does a thing, and tells what was wrong with it.
func (m *maker) attempt(do func()) (bad []api.Bad) {
	defer func() {
		switch x := recover().(type) {
		case nil:
		case fault:
			bad = []api.Bad{x.bad}
		default:
			panic(x)
		}
	}()
	do()
	return nil
}

// fail tells what is wrong at a file's node.
func (m *maker) fail(file, i int, why api.Errno) {
	f := m.Prog.Files[file]
	panic(fault{api.Bad{Pkg: f.Pkg, File: f.No, At: f.Nodes[i].At, Why: why}})
}

// must tells an error at a node, if there is one.
func (m *maker) must(file, i int, e api.Errno) {
	if e != api.OK {
		m.fail(file, i, e)
	}
}

func (m *maker) node(file, i int) api.Node { return m.Prog.Files[file].Nodes[i] }

// put puts a node's type in.
func (m *maker) put(file, i int, t api.Type) int {
	if len(t.Kids) > api.MaxKids {
		m.fail(file, i, api.ErrMany)
	}
	u, at, e := unit.Put(m.Unit, t)
	m.must(file, i, e)
	m.Unit = u
	return at
}

// under is what a type is, its name apart, and the place of that; an error is told at a node.
func (m *maker) under(file, i, t int) (api.Type, int) {
	if x := m.Unit.Types[t]; x.Kind != api.KNamed {
		return x, t
	}
	u, at, e := unit.Under(m.Unit, t)
	m.must(file, i, e)
	m.Unit = u
	return u.Types[at], at
}

// fullName is what a type is called in the unit.
func fullName(d api.Decl) string { return d.Pkg + "." + d.Name }

// named is what is told of the type of a name.
func (m *maker) named(name string) *api.Named {
	i := slices.IndexFunc(m.Unit.Named, func(n api.Named) bool { return n.Name == name })
	return &m.Unit.Named[i]
}

// texts are those of a node's kids, in order.
func (m *maker) texts(file, i int) []string {
	var l []string
	for _, k := range m.node(file, i).Kids {
		l = append(l, m.node(file, k).Text)
	}
	return l
}

// params are the type params' names of a declaration that is no method; at is the node of them.
func (m *maker) params(d api.Decl) (names []string, at int) {
	kids := m.node(d.File, d.Node).Kids
	switch d.Kind {
	case api.DType:
		at = kids[0]
	case api.DFunc:
		at = kids[1]
	default:
		return nil, 0
	}
	return m.texts(d.File, at), at
}

// twice tells whether two of these are the same, but `_`.
func twice(l []string) bool {
	for i, s := range l {
		for _, x := range l[:i] {
			if s == x && s != "_" {
				return true
			}
		}
	}
	return false
}

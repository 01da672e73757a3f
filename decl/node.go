package decl

import (
	"slices"

	"indenture/api"
	"indenture/lit"
	"indenture/nat"
	"indenture/src"
	"indenture/subst"
	"indenture/tset"
)

// mostLong is how many elements an array may have.
const mostLong = 1 << 31

// typeOf is a node's type; looked at closely, it may not be a constraint.
func (m *maker) typeOf(s spot, i int) int {
	t := m.bareType(s, i)
	if s.closely {
		if x, _ := m.under(s.File, i, t); x.Kind == api.KIface && x.N != 0 {
			m.fail(s.File, i, api.ErrType)
		}
	}
	return t
}

// bareType is a node's type, whatever it is.
func (m *maker) bareType(s spot, i int) int {
	n := m.node(s.File, i)
	switch n.Kind {
	case api.NName, api.NSel:
		return m.nameType(s, i)
	case api.NIndex:
		return m.indexType(s, i)
	case api.NParen:
		return m.typeOf(s, n.Kids[0])
	case api.NUnary:
		if n.Text == "*" {
			return m.put(s.File, i, api.Type{Kind: api.KPtr, Kids: []int{m.typeOf(s, n.Kids[0])}})
		}
	case api.NSlice:
		return m.put(s.File, i, api.Type{Kind: api.KSlice, Kids: []int{m.typeOf(s, n.Kids[0])}})
	case api.NArray:
		return m.arrayType(s, i)
	case api.NMap:
		return m.mapType(s, i)
	case api.NFunc:
		return m.funcType(s, i)
	case api.NStruct:
		return m.structType(s, i)
	case api.NIface:
		return m.ifaceType(s, i)
	}
	m.fail(s.File, i, api.ErrType)
	return 0
}

// basics are the names of types that are not declared.
var basics = [18]string{
	"bool", "string", "int", "int8", "int16", "int32", "int64", "uint", "uint8", "uint16", "uint32", "uint64", "float32", "float64",
	"byte", "rune", "any", "comparable",
}

// basic is the type of such a name, if it is one.
func basic(name string) (int, bool) {
	for i, b := range basics {
		if b != name {
			continue
		}
		switch name {
		case "byte":
			return api.YUint8, true
		case "rune":
			return api.YInt32, true
		case "any":
			return api.YAny, true
		case "comparable":
			return api.YComp, true
		}
		return i, true
	}
	return 0, false
}

// param is the number of a type param, the last one of that name; -1, if there is none.
func param(s spot, name string) int {
	for i := len(s.Params) - 1; i >= 0; i-- {
		if s.Params[i] == name {
			return i
		}
	}
	return -1
}

// declared is the place of the declaration that an NName or an NSel tells; -1 and a type, if it tells another type.
func (m *maker) declared(s spot, i int) (int, int) {
	n := m.node(s.File, i)
	if n.Kind == api.NSel {
		return m.selected(s, i), 0
	}
	if p := param(s, n.Text); p >= 0 {
		return -1, m.put(s.File, i, api.Type{Kind: api.KParam, N: p})
	}
	if d, ok := m.places[label{s.Pkg, n.Text}]; ok {
		return d, 0
	}
	t, ok := basic(n.Text)
	if !ok {
		m.fail(s.File, i, api.ErrNone)
	}
	return -1, t
}

// selected is the place of the declaration of another package that an NSel tells.
func (m *maker) selected(s spot, i int) int {
	n := m.node(s.File, i)
	x := m.node(s.File, n.Kids[0])
	if x.Kind != api.NName {
		m.fail(s.File, i, api.ErrType)
	}
	_, here := m.places[label{s.Pkg, x.Text}]
	d, there := m.places[label{x.Text, n.Text}]
	if param(s, x.Text) >= 0 || here || !slices.Contains(m.Prog.Files[s.File].Imports, x.Text) || !src.Public(n.Text) || !there {
		m.fail(s.File, i, api.ErrNone)
	}
	return d
}

// nameType is the type of an NName or an NSel.
func (m *maker) nameType(s spot, i int) int {
	at, t := m.declared(s, i)
	if at < 0 {
		return t
	}
	d := m.Prog.Decls[at]
	if names, _ := m.params(d); d.Kind != api.DType || len(names) > 0 || d.Name == "_" {
		m.fail(s.File, i, api.ErrType)
	}
	return m.put(s.File, i, api.Type{Kind: api.KNamed, Name: fullName(d)})
}

// indexType is a type of type params, of types instead of them.
func (m *maker) indexType(s spot, i int) int {
	n := m.node(s.File, i)
	first := m.node(s.File, n.Kids[0])
	if first.Kind != api.NName && first.Kind != api.NSel {
		m.fail(s.File, i, api.ErrType)
	}
	at, _ := m.declared(s, n.Kids[0])
	if at < 0 {
		m.fail(s.File, i, api.ErrType)
	}
	d := m.Prog.Decls[at]
	var args []int
	for _, k := range n.Kids[1:] {
		args = append(args, m.typeOf(s, k))
	}
	if names, _ := m.params(d); d.Kind != api.DType || len(names) != len(args) || d.Name == "_" {
		m.fail(s.File, i, api.ErrType)
	}
	t := m.put(s.File, i, api.Type{Kind: api.KNamed, Name: fullName(d), Kids: args})
	if s.closely {
		m.bound(s, i, m.named(fullName(d)).Bounds, args)
	}
	return t
}

// bound tells whether types are of their bounds, with all of them instead of type params.
func (m *maker) bound(s spot, i int, bounds, args []int) {
	for n, b := range bounds {
		l, at, e := subst.Subst(m.Unit.Types, b, args)
		m.must(s.File, i, e)
		m.Unit.Types = l
		ok, e := tset.Has(m.Unit, s.Bounds, args[n], at)
		m.must(s.File, i, e)
		if !ok {
			m.fail(s.File, i, api.ErrType)
		}
	}
}

func (m *maker) arrayType(s spot, i int) int {
	n := m.node(s.File, i)
	long := m.node(s.File, n.Kids[0])
	if long.Kind != api.NInt {
		m.fail(s.File, i, api.ErrType)
	}
	many, e := lit.Int(long.Text)
	m.must(s.File, i, e)
	if c, _ := nat.Cmp(many, nat.Of(mostLong)); c > 0 {
		m.fail(s.File, i, api.ErrMany)
	}
	t := api.Type{Kind: api.KArray, Kids: []int{m.typeOf(s, n.Kids[1])}}
	if len(many) > 0 {
		t.N = int(many[0])
	}
	return m.put(s.File, i, t)
}

func (m *maker) mapType(s spot, i int) int {
	n := m.node(s.File, i)
	from := m.typeOf(s, n.Kids[0])
	to := m.typeOf(s, n.Kids[1])
	if s.closely {
		ok, e := tset.Comparable(m.Unit, s.Bounds, from)
		m.must(s.File, i, e)
		if !ok {
			m.fail(s.File, i, api.ErrType)
		}
	}
	return m.put(s.File, i, api.Type{Kind: api.KMap, Kids: []int{from, to}})
}

func (m *maker) funcType(s spot, i int) int {
	kids := m.node(s.File, i).Kids
	params, result := kids[:len(kids)-1], kids[len(kids)-1]
	t := api.Type{Kind: api.KFunc}
	var names []string
	for _, k := range params {
		p := m.node(s.File, k)
		if names = append(names, p.Text); twice(names) {
			m.fail(s.File, i, api.ErrTwice)
		}
		t.Kids = append(t.Kids, m.typeOf(s, p.Kids[0]))
	}
	if m.node(s.File, result).Kind != api.NNone {
		t.Kids, t.N = append(t.Kids, m.typeOf(s, result)), 1
	}
	return m.put(s.File, i, t)
}

package decl

import (
	"cmp"
	"slices"

	"indenture/api"
	"indenture/tset"
)

func (m *maker) structType(s spot, i int) int {
	t := api.Type{Kind: api.KStruct}
	var names []string
	for _, k := range m.node(s.File, i).Kids {
		n := m.node(s.File, k)
		mark, name := "", n.Text
		if name == "" {
			mark, name = "+", m.embeddedName(s, k)
		}
		if names = append(names, name); twice(names) {
			m.fail(s.File, k, api.ErrTwice)
		}
		t.Words = append(t.Words, mark+name)
		t.Kids = append(t.Kids, m.typeOf(s, n.Kids[0]))
		if mark != "" && s.closely {
			m.embeddable(s, k, t.Kids[len(t.Kids)-1])
		}
	}
	return m.put(s.File, i, t)
}

// embeddedName is the name of a field that is told by its type alone.
func (m *maker) embeddedName(s spot, i int) string {
	n := m.node(s.File, m.node(s.File, i).Kids[0])
	if n.Kind == api.NUnary {
		n = m.node(s.File, n.Kids[0])
	}
	if n.Kind == api.NIndex {
		n = m.node(s.File, n.Kids[0])
	}
	if n.Kind != api.NName && n.Kind != api.NSel {
		m.fail(s.File, i, api.ErrType)
	}
	return n.Text
}

// embeddable tells whether a field may be embedded, of its type.
func (m *maker) embeddable(s spot, i, t int) {
	pointer := m.node(s.File, m.node(s.File, i).Kids[0]).Kind == api.NUnary
	if pointer {
		t = m.Unit.Types[t].Kids[0]
	}
	form, _ := m.under(s.File, i, t)
	if form.Kind == api.KParam || form.Kind == api.KPtr || pointer && form.Kind == api.KIface {
		m.fail(s.File, i, api.ErrType)
	}
}

// part is a method of an interface, or a term: its word, and its kid.
type part struct {
	word string
	kid  int
}

// iface is an interface of parts, in order.
func iface(n int, parts []part) api.Type {
	t := api.Type{Kind: api.KIface, N: n}
	for _, p := range parts {
		t.Words, t.Kids = append(t.Words, p.word), append(t.Kids, p.kid)
	}
	return t
}

func (m *maker) ifaceType(s spot, i int) int {
	kids := m.node(s.File, i).Kids
	var methods []part
	for _, k := range kids {
		n := m.node(s.File, k)
		if n.Kind != api.NMethod {
			continue
		}
		if n.Text == "_" {
			m.fail(s.File, k, api.ErrType)
		}
		if slices.ContainsFunc(methods, func(p part) bool { return p.word == n.Text }) {
			m.fail(s.File, k, api.ErrTwice)
		}
		methods = append(methods, part{n.Text, m.typeOf(s, n.Kids[0])})
	}
	slices.SortFunc(methods, func(p, q part) int { return cmp.Compare(p.word, q.word) })
	so := m.put(s.File, i, iface(0, methods))
	for _, k := range kids {
		if m.node(s.File, k).Kind != api.NUnion {
			continue
		}
		c := m.constraint(s, k)
		u, at, e := tset.Meet(m.Unit, so, c)
		m.must(s.File, k, e)
		m.Unit, so = u, at
	}
	return so
}

// constraint is that of an NUnion.
func (m *maker) constraint(s spot, i int) int {
	kids := m.node(s.File, i).Kids
	var terms []part
	for _, k := range kids {
		n := m.node(s.File, k)
		p := part{"=", m.bareType(s, n.Kids[0])}
		if n.Text == "~" {
			p.word = "~"
		}
		terms = append(terms, p)
	}
	if len(terms) == 1 && terms[0].word == "=" {
		if form, at := m.under(s.File, kids[0], terms[0].kid); form.Kind == api.KIface {
			return at
		}
	}
	for n, p := range terms {
		form, at := m.under(s.File, kids[n], p.kid)
		if form.Kind == api.KParam || form.Kind == api.KIface || p.word == "~" && at != p.kid {
			m.fail(s.File, kids[n], api.ErrType)
		}
		if slices.ContainsFunc(terms[:n], func(q part) bool { return q.kid == p.kid }) {
			m.fail(s.File, kids[n], api.ErrTwice)
		}
	}
	slices.SortFunc(terms, func(p, q part) int { return cmp.Compare(p.kid, q.kid) })
	return m.put(s.File, i, iface(2, terms))
}

package scope

import (
	"slices"

	"indenture/api"
	"indenture/ast"
)

// name is what declarations are sought by.
type name struct{ pkg, text string }

// table is a program with the places of what has names: what may be named in expressions, but for types and methods, and how many declarations, but for methods, have a name.
type table struct {
	p      api.Program
	values map[name][]int
	many   map[name]int
}

func newTable(p api.Program) *table {
	t := &table{p, make(map[name][]int), make(map[name]int)}
	for i, d := range p.Decls {
		n := name{d.Pkg, d.Name}
		switch d.Kind {
		case api.DConst, api.DVar, api.DFunc:
			t.values[n] = append(t.values[n], i)
		}
		if d.Kind != api.DMethod {
			t.many[n]++
		}
	}
	return t
}

// madeRight tells whether a program is made right.
func madeRight(p api.Program) bool {
	for _, f := range p.Files {
		if !ast.Right(f.Nodes) || root(f).Kind != api.NFile {
			return false
		}
	}
	return !slices.ContainsFunc(p.Decls, func(d api.Decl) bool { return !stands(p, d) })
}

// stands tells whether a declaration's node stands where it says, and is of its kind.
func stands(p api.Program, d api.Decl) bool {
	if d.File < 0 || d.File >= len(p.Files) {
		return false
	}
	f := p.Files[d.File]
	if !slices.Contains(root(f).Kids, d.Node) {
		return false
	}
	switch kind := f.Nodes[d.Node].Kind; d.Kind {
	case api.DConst:
		return kind == api.NConst
	case api.DVar:
		return kind == api.NVar
	case api.DType:
		return kind == api.NType
	case api.DFunc, api.DMethod:
		return kind == api.NDecl
	}
	return false
}

// own are a declaration's own texts.
func own(nodes []api.Node, d int) []string {
	var l []string
	gather := func(i, kind int) {
		for _, k := range nodes[i].Kids {
			if nodes[k].Kind == kind {
				l = append(l, nodes[k].Text)
			}
		}
	}
	n := nodes[d]
	switch n.Kind {
	case api.NType:
		gather(n.Kids[0], api.NOf)
	case api.NDecl:
		if recv := nodes[n.Kids[0]]; recv.Kind == api.NRecv {
			l = append(l, recv.Text)
		}
		gather(n.Kids[1], api.NOf)
		gather(n.Kids[2], api.NParam)
	}
	return l
}

// uses are the places of those that a declaration names, rising, each once.
func (t *table) uses(i int) []int {
	d := t.p.Decls[i]
	f := t.p.Files[d.File]
	texts := own(f.Nodes, d.Node)
	var l []int
	var walk func(k int)
	walk = func(k int) {
		n := f.Nodes[k]
		switch n.Kind {
		case api.NRecv:
			return
		case api.NName:
			if !slices.Contains(texts, n.Text) {
				l = append(l, t.values[name{d.Pkg, n.Text}]...)
			}
		case api.NSel:
			if x := f.Nodes[n.Kids[0]]; x.Kind == api.NName && !slices.Contains(texts, x.Text) && t.many[name{d.Pkg, x.Text}] == 0 && slices.Contains(f.Imports, x.Text) {
				l = append(l, t.values[name{x.Text, n.Text}]...)
			}
		}
		for _, x := range n.Kids {
			walk(x)
		}
	}
	walk(d.Node)
	slices.Sort(l)
	return slices.Compact(l)
}

// Uses are the places of the declarations that a declaration names.
func Uses(p api.Program, i int) ([]int, api.Errno) {
	if !madeRight(p) {
		return nil, api.ErrArg
	}
	if i < 0 || i >= len(p.Decls) {
		return nil, api.ErrNone
	}
	return newTable(p).uses(i), api.OK
}

// hangs are the constants and variables that each of these hangs on, itself too, through functions.
func (t *table) hangs(values []int) [][]int {
	named := make([][]int, len(t.p.Decls))
	for i := range named {
		named[i] = t.uses(i)
	}
	l := make([][]int, len(values))
	for n, v := range values {
		seen := make([]bool, len(named))
		left := slices.Clone(named[v])
		for len(left) > 0 {
			i := left[0]
			left = left[1:]
			if seen[i] {
				continue
			}
			seen[i] = true
			if t.p.Decls[i].Kind == api.DFunc {
				left = append(left, named[i]...)
			} else {
				l[n] = append(l[n], i)
			}
		}
	}
	return l
}

// Order are the places of the constants and variables, each behind those that it hangs on, or what hangs on itself.
func Order(p api.Program) ([]int, []api.Bad) {
	if !madeRight(p) {
		return nil, []api.Bad{{Why: api.ErrArg}}
	}
	var values []int
	at := make([]int, len(p.Decls))
	for i, d := range p.Decls {
		if d.Kind == api.DConst || d.Kind == api.DVar {
			at[i] = len(values)
			values = append(values, i)
		}
	}
	hangs := newTable(p).hangs(values)
	order := take(len(values), func(n int, taken []bool) bool {
		return !slices.ContainsFunc(hangs[n], func(i int) bool { return !taken[at[i]] })
	})
	if len(order) < len(values) {
		d := p.Decls[values[left(order)]]
		return nil, []api.Bad{badOf(p.Files[d.File], d.Node, api.ErrCycle)}
	}
	for n, v := range order {
		order[n] = values[v]
	}
	return order, nil
}

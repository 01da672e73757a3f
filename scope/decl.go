package scope

import (
	"slices"

	"indenture/api"
)

// kindOf is a declaration's kind, of its node; 0, if that is none.
func kindOf(f api.File, node int) int {
	n := f.Nodes[node]
	switch n.Kind {
	case api.NConst:
		return api.DConst
	case api.NVar:
		return api.DVar
	case api.NType:
		return api.DType
	case api.NDecl:
		if f.Nodes[n.Kids[0]].Kind == api.NRecv {
			return api.DMethod
		}
		return api.DFunc
	}
	return 0
}

// declare gathers what a program's files declare.
func declare(p *api.Program) {
	for at, f := range p.Files {
		for _, k := range root(f).Kids {
			d := api.Decl{Kind: kindOf(f, k), Pkg: f.Pkg, Name: f.Nodes[k].Text, File: at, Node: k}
			if d.Kind == 0 {
				continue
			}
			if d.Kind == api.DMethod {
				d.Recv = receiver(f.Nodes, f.Nodes[f.Nodes[k].Kids[0]].Kids[0])
			}
			p.Decls = append(p.Decls, d)
		}
	}
}

// receiver is a receiver's type, of what its node tells; no name, if that tells none.
func receiver(nodes []api.Node, i int) string {
	n := nodes[i]
	if n.Kind == api.NUnary && n.Text == "*" {
		n = nodes[n.Kids[0]]
	}
	switch n.Kind {
	case api.NName:
		return n.Text
	case api.NIndex:
		if !slices.ContainsFunc(n.Kids, func(k int) bool { return nodes[k].Kind != api.NName }) {
			return nodes[n.Kids[0]].Text
		}
	}
	return ""
}

// label is what a declaration is told by: a method by its type, too.
type label struct{ pkg, recv, name string }

// clashes is what is wrong with declarations, beside others.
func clashes(p api.Program) []api.Bad {
	types := make(map[label]int)
	imports := make(map[label]int)
	for _, d := range p.Decls {
		if d.Kind == api.DType {
			types[label{pkg: d.Pkg, name: d.Name}]++
		}
	}
	for _, f := range p.Files {
		for _, path := range f.Imports {
			imports[label{pkg: f.Pkg, name: path}]++
		}
	}
	earlier := make(map[label]int)
	var bad []api.Bad
	for _, d := range p.Decls {
		l := label{d.Pkg, d.Recv, d.Name}
		node, why := d.Node, api.OK
		if d.Kind == api.DMethod {
			node, why = methodClash(p.Files[d.File].Nodes, d, types)
		}
		again := earlier[l] > 0 || d.Kind != api.DMethod && imports[l] > 0
		if why == api.OK && d.Name != "_" && again {
			why = api.ErrTwice
		}
		if d.Kind != api.DMethod || d.Recv != "" {
			earlier[l]++
		}
		if why != api.OK {
			bad = append(bad, badOf(p.Files[d.File], node, why))
		}
	}
	return bad
}

// methodClash is what is wrong with a method's type, and at which node.
func methodClash(nodes []api.Node, d api.Decl, types map[label]int) (int, api.Errno) {
	kids := nodes[d.Node].Kids
	switch {
	case d.Recv == "" || d.Recv == "_":
		return kids[0], api.ErrType
	case len(nodes[kids[1]].Kids) > 0:
		return d.Node, api.ErrType
	case types[label{pkg: d.Pkg, name: d.Recv}] == 0:
		return d.Node, api.ErrNone
	}
	return d.Node, api.OK
}

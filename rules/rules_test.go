// Package rules has tests alone: of what the program's text may have in it.
package rules

import (
	"bytes"
	"go/ast"
	"go/format"
	"go/parser"
	"go/token"
	"os"
	"path/filepath"
	"slices"
	"strconv"
	"strings"
	"testing"
)

// library are the packages of the library that the program may import.
var library = strings.Fields("bytes cmp container/heap errors iter maps math math/bits slices sort strconv strings sync sync/atomic unicode unicode/utf8")

// most is how many lines a function may have.
const most = 60

// files are the program's own, apart from its tests.
func files(t *testing.T) []string {
	t.Helper()
	l, err := filepath.Glob("../*/*.go")
	if err != nil || len(l) == 0 {
		t.Fatal(l, err)
	}
	return slices.DeleteFunc(l, func(f string) bool {
		return strings.HasSuffix(f, "_test.go") || strings.HasPrefix(f, "../sharedtests")
	})
}

func TestText(t *testing.T) {
	for _, f := range files(t) {
		text, err := os.ReadFile(f)
		if err != nil {
			t.Fatal(err)
		}
		if tidy, err := format.Source(text); err != nil || !bytes.Equal(tidy, text) {
			t.Error(f, "is not laid out as gofmt does", err)
		}
		if bytes.Contains(text, []byte("//go:")) || bytes.Contains(text, []byte("+build")) {
			t.Error(f, "has a line for the tools")
		}
	}
}

func TestProgram(t *testing.T) {
	for _, f := range files(t) {
		set := token.NewFileSet()
		tree, err := parser.ParseFile(set, f, nil, 0)
		if err != nil {
			t.Fatal(err)
		}
		for _, x := range tree.Imports {
			path, _ := strconv.Unquote(x.Path.Value)
			if !strings.HasPrefix(path, "indenture/") && !slices.Contains(library, path) {
				t.Error(f, "imports", path)
			}
		}
		for _, d := range tree.Decls {
			if fn, ok := d.(*ast.FuncDecl); ok {
				if n := set.Position(fn.End()).Line - set.Position(fn.Pos()).Line + 1; n > most {
					t.Error(f, fn.Name.Name, "has", n, "lines")
				}
			}
			if g, ok := d.(*ast.GenDecl); ok && g.Tok == token.VAR {
				for _, s := range g.Specs {
					table(t, f, s.(*ast.ValueSpec))
				}
			}
		}
		ast.Inspect(tree, func(n ast.Node) bool {
			within(t, f, n)
			return true
		})
	}
}

// table looks at a variable at package level: it has a value that is written out, and is no map and no function.
func table(t *testing.T, f string, s *ast.ValueSpec) {
	if len(s.Values) == 0 {
		t.Error(f, s.Names[0], "has no value of its own")
	}
	for _, v := range s.Values {
		c, ok := v.(*ast.CompositeLit)
		if !ok {
			t.Error(f, s.Names[0], "is no table")
			continue
		}
		ast.Inspect(c, func(n ast.Node) bool {
			switch n.(type) {
			case *ast.MapType, *ast.FuncType, *ast.FuncLit, *ast.CallExpr:
				t.Error(f, s.Names[0], "has what a table may not have")
			}
			return true
		})
	}
}

// within looks at what stands anywhere.
func within(t *testing.T, f string, n ast.Node) {
	switch x := n.(type) {
	case *ast.MapType:
		if v, ok := x.Value.(*ast.Ident); ok && (v.Name == "bool" || v.Name == "string") {
			t.Error(f, "has a map of", v.Name)
		}
	case *ast.CallExpr:
		if fn, ok := x.Fun.(*ast.Ident); ok && (fn.Name == "print" || fn.Name == "println") {
			t.Error(f, "prints")
		}
	case *ast.SelectorExpr:
		if p, ok := x.X.(*ast.Ident); ok && p.Name == "iter" && strings.HasPrefix(x.Sel.Name, "Pull") {
			t.Error(f, "pulls")
		}
	}
}

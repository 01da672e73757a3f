package client

import (
	"slices"
	"strings"
	"testing"

	"indenture/api"
	"indenture/check"
	"indenture/decl"
	"indenture/diff"
)

// sources are of texts such as `p: file || file`, or one file of p.
func sources(l ...string) []api.Source {
	var s []api.Source
	for _, x := range l {
		path, files, ok := strings.Cut(x, ": ")
		if !ok || strings.ContainsAny(path, " ;") {
			path, files = "p", x
		}
		one := api.Source{Path: path}
		for _, f := range strings.Split(files, " || ") {
			one.Files = append(one.Files, "package "+path+";"+f)
		}
		s = append(s, one)
	}
	return s
}

func world(t *testing.T, l ...string) api.World {
	t.Helper()
	w, bad := check.All(sources(l...))
	if bad != nil {
		t.Fatal(l, bad)
	}
	return w
}

const head = "package client\nimport \"p\"\n"

// lines are texts' lines, `|` between two texts, a blank and `;` instead of a byte 10 within one.
func lines(t *testing.T, texts []string, head string) string {
	t.Helper()
	var l []string
	for _, s := range texts {
		if !strings.HasPrefix(s, head) || !strings.HasSuffix(s, "\n") {
			t.Fatalf("%q", s)
		}
		l = append(l, strings.ReplaceAll(strings.TrimSuffix(strings.TrimPrefix(s, head), "\n"), "\n", "; "))
	}
	return strings.Join(l, " | ")
}

func TestP22_1(t *testing.T) {
	value := "var W = p.A | var W int = p.A | var W string = p.A"
	calls := "var W = p.A | var W = p.A[int] | var W = p.A[string]" +
		" | var W = p.A() | var W int = p.A() | var W string = p.A()" +
		" | var W = p.A(0) | var W int = p.A(0) | var W string = p.A(0)" +
		" | var W = p.A(\"s\") | var W int = p.A(\"s\") | var W string = p.A(\"s\")" +
		" | var W = p.A(nil) | var W int = p.A(nil) | var W string = p.A(nil)"
	types := "var W p.A | var W p.A[int] | var W p.A[string] | func W[A p.A](a A) {} | const W p.A = 1 | const W p.A = \"s\" | var W p.A = nil | type W struct { p.A }"
	for _, c := range []struct {
		old, fresh string
		what       int
		want       string
	}{
		{"const A = 1", "const A = 2", api.WOther, "var W = p.A | const W = 1 / (p.A - 2) | var W int = p.A | var W string = p.A"},
		{"const A = 1", "const A = -2", api.WOther, "var W = p.A | const W = 1 / (p.A + 2) | var W int = p.A | var W string = p.A"},
		{"const A = 1", "const A = 0", api.WOther, "var W = p.A | const W = 1 / (p.A - 0) | var W int = p.A | var W string = p.A"},
		{"const A = 1.0", "const A int8 = 4 / 2", api.WOther, "var W = p.A | const W = 1 / (p.A - 2) | var W int = p.A | var W string = p.A"},
		{"const A = 1", "const A = 1 << 100", api.WOther, "var W = p.A | const W = 1 / (p.A - 1267650600228229401496703205376) | var W int = p.A | var W string = p.A"},
		{"const A = 1", "const A = 1.5", api.WOther, value},
		{"const A = 1.5", "const A = 1", api.WOther, value},
		{"const A = 1", "const A = \"s\"", api.WOther, value},
		{"const A = true", "const A = 1", api.WOther, value},
		{"const A = 1", "var A = 2", api.WOther, value},
		{"const A = 1", "const B = 2", api.WOther, value},
		{"const A = 1", "const A = 2", api.WGone, value},
		{"var A int", "", api.WGone, value},
		{"var A T; type T struct{ B int; c int; E; _ int }; type E struct{ D string; B int }; func (e *E) Get() {}; func (t T) low() {}", "", api.WOther, value + " | var W = p.A.B | var W = p.A.D | var W = p.A.E | var W = p.A.Get"},
		{"func A() {}", "", api.WGone, calls},
		{"func A[X any](x X) X { return x }", "func A() {}", api.WOther, calls},
		{"type A int", "", api.WGone, types},
		{"type A[X any] struct{ B int }", "", api.WGone, types},
		{"type A struct{ B int; c int }; func (a *A) M() {}", "type A int", api.WOther, types + " | var V p.A; var W = V.B | var V p.A; var W int = V.B | var V p.A; var W string = V.B | var V p.A; var W = V.M | var V p.A; var W int = V.M | var V p.A; var W string = V.M"},
		{"type A interface{ M(); n() }", "", api.WGone, types + " | var V p.A; var W = V.M | var V p.A; var W int = V.M | var V p.A; var W string = V.M"},
	} {
		fresh := c.fresh
		if fresh == "" {
			fresh = "var zz int"
		}
		texts, e := Texts(world(t, c.old), world(t, fresh), api.Change{What: c.what, Pkg: "p", Name: "A"})
		if got := lines(t, texts, head); got != c.want || e != api.OK {
			t.Errorf("%s, %s: %s %d", c.old, c.fresh, got, e)
		}
	}
}

func TestP22_1Wrong(t *testing.T) {
	a, b := world(t, "const A = 1; var b int", "q: var C int"), world(t, "const B = 1")
	bad := a
	bad.Objs = nil
	for _, what := range []int{0, 1, 2, 3, 4, 5, 6, -1} {
		for _, w := range [][2]api.World{{bad, b}, {a, bad}, {api.World{}, api.World{}}} {
			c := api.Change{What: what, Pkg: "p", Name: "A"}
			if l, e := Texts(w[0], w[1], c); l != nil || e != api.ErrArg {
				t.Error(l, e)
			}
			if f, e := Judge(w[0], w[1], c); f != (api.Finding{}) || e != api.ErrArg {
				t.Error(f, e)
			}
		}
	}
	for _, c := range []api.Change{{What: api.WGone, Pkg: "p", Name: "B"}, {What: api.WOther, Pkg: "p", Name: "b"}, {What: api.WGone, Pkg: "q", Name: "A"}, {What: api.WGone, Pkg: "p"}, {What: api.WOther, Pkg: "x", Name: "A"}, {What: api.WGone}} {
		if l, e := Texts(a, b, c); l != nil || e != api.ErrNone {
			t.Error(c, l, e)
		}
		if f, e := Judge(a, b, c); f != (api.Finding{}) || e != api.ErrNone {
			t.Error(c, f, e)
		}
	}
	for _, what := range []int{0, api.WNew, api.WPkgNew, 6, -1} {
		if l, e := Texts(a, b, api.Change{What: what, Pkg: "p", Name: "A"}); len(l) != 0 || e != api.OK {
			t.Error(what, l, e)
		}
	}
	if l, e := Texts(a, b, api.Change{What: api.WPkgGone, Pkg: "q"}); !slices.Equal(l, []string{"package client\nimport \"q\"\n"}) || e != api.OK {
		t.Error(l, e)
	}
	// A constant and a variable of worlds that are not checked.
	un := world(t, "const A = 1; var B T; type T struct{ X int }")
	un.Objs = slices.Clone(un.Objs)
	for i := range un.Objs {
		un.Objs[i] = api.Obj{Type: -1}
	}
	if !decl.Right(un) {
		t.Fatal("not right")
	}
	for _, name := range []string{"A", "B"} {
		l, e := Texts(un, un, api.Change{What: api.WOther, Pkg: "p", Name: name})
		if got := lines(t, l, head); got != strings.ReplaceAll("var W = p.A | var W int = p.A | var W string = p.A", "A", name) || e != api.OK {
			t.Error(got, e)
		}
	}
}

func TestP22_2(t *testing.T) {
	use := head + "var W = p.A\n"
	for _, c := range []struct {
		old, fresh []string
		text       string
		want       bool
	}{
		{[]string{"var A int"}, []string{"var B int"}, use, true},
		{[]string{"var A int"}, []string{"var A string"}, use, false},
		{[]string{"var A int"}, []string{"var A string"}, head + "var W int = p.A", true},
		{[]string{"var B int"}, []string{"var A int"}, use, false},
		{[]string{"var B int"}, []string{"var C int"}, use, false},
		{[]string{"var A int"}, []string{"var A x"}, use, true},
		{[]string{"var A int"}, []string{"$"}, use, true},
		{[]string{"var A int"}, []string{"var A = x"}, "package client", true},
		{[]string{"var A int"}, []string{"var A int = " + strings.Repeat("(", 30)}, use, false},
		{[]string{"var A int"}, []string{"var A [2147483649]int"}, use, false},
		{[]string{"var A int"}, []string{"var b$", "c: var " + strings.Repeat("x", 21)}, use, false},
		{[]string{"var A int"}, []string{"a: ", "b: ", "c: ", "d: "}, use, false},
		{[]string{"var A int", "a: ", "b: "}, []string{"a: "}, use, true},
		{[]string{"var A int", "a: ", "b: ", "c: "}, []string{"a: "}, use, false},
		{[]string{"var A int"}, nil, use, true},
		{nil, []string{"var A int"}, use, false},
		{[]string{"var A int", "client: "}, []string{"a: "}, use, false},
		{[]string{"var A int"}, []string{"client: var A int"}, use, false},
		{[]string{"var A int"}, []string{"q: "}, "package client", false},
		{[]string{"var A int"}, []string{"q: "}, head, true},
		{[]string{"var A int"}, []string{"var B int"}, "package x", false},
		{[]string{"var A int"}, []string{"var B int"}, "", false},
	} {
		if got := Breaks(sources(c.old...), sources(c.fresh...), c.text); got != c.want {
			t.Error(c, got)
		}
	}
	// Nothing is written behind a list's end.
	room := append(make([]api.Source, 0, 4), sources("var A int")...)
	Breaks(room, room, use)
	if room[:2][1].Path != "" {
		t.Error(room[:2])
	}
}

func TestP22_3(t *testing.T) {
	for _, c := range []struct {
		old, fresh string
		change     api.Change
		class      int
		want       string
	}{
		{"const A = 1", "const A = 2", api.Change{What: api.WOther, Name: "A"}, api.BreakClass, "const W = 1 / (p.A - 2)"},
		{"const A = 2", "const A = -7", api.Change{What: api.WOther, Name: "A"}, api.BreakClass, "const W = 1 / (p.A + 7)"},
		{"const A = 1", "const A int8 = 1", api.Change{What: api.WOther, Name: "A"}, api.BreakClass, "var W int = p.A"},
		{"const A = \"x\"", "const A = \"y\"", api.Change{What: api.WOther, Name: "A"}, api.UnsureClass, ""},
		{"const A = 1", "var B int", api.Change{What: api.WGone, Name: "A"}, api.BreakClass, "var W = p.A"},
		{"var A T; type T struct{ B int; C int }", "var A T; type T struct{ B int }", api.Change{What: api.WOther, Name: "A"}, api.BreakClass, "var W = p.A.C"},
		{"type T struct{ B int }", "type T struct{ C int }", api.Change{What: api.WOther, Name: "T"}, api.BreakClass, "var V p.T; var W = V.B"},
		{"type T struct{ B int }", "type T struct{ B string }", api.Change{What: api.WOther, Name: "T"}, api.BreakClass, "var V p.T; var W int = V.B"},
		{"type T struct{ B int }", "type T struct{ B int; C int }", api.Change{What: api.WOther, Name: "T"}, api.UnsureClass, ""},
		{"type T[A ~int | ~string] int", "type T[A ~int] int", api.Change{What: api.WOther, Name: "T"}, api.BreakClass, "var W p.T[string]"},
		{"type T interface{ int | string }", "type T[A any] int", api.Change{What: api.WOther, Name: "T"}, api.BreakClass, "func W[A p.T](a A) {}"},
		{"type T int", "type T string", api.Change{What: api.WOther, Name: "T"}, api.BreakClass, "const W p.T = 1"},
		{"type T string", "type T []int", api.Change{What: api.WOther, Name: "T"}, api.BreakClass, "const W p.T = \"s\""},
		{"type T []int", "type T [2]int", api.Change{What: api.WOther, Name: "T"}, api.BreakClass, "var W p.T = nil"},
		{"type T struct{}", "type T *int", api.Change{What: api.WOther, Name: "T"}, api.BreakClass, "type W struct { p.T }"},
		{"func A() {}", "func A(a int) {}", api.Change{What: api.WOther, Name: "A"}, api.UnsureClass, ""},
		{"func A() int { return 1 }", "func A(a int) int { return a }", api.Change{What: api.WOther, Name: "A"}, api.BreakClass, "var W = p.A()"},
		{"func A[X any]() {}", "func A() {}", api.Change{What: api.WOther, Name: "A"}, api.BreakClass, "var W = p.A[int]"},
		{"func A(a *int) string { return \"\" }", "func A(a *int) int { return 1 }", api.Change{What: api.WOther, Name: "A"}, api.BreakClass, "var W string = p.A(nil)"},
		{"var A int", "var B int; var A int", api.Change{What: api.WNew, Name: "B"}, api.FineClass, ""},
		{"var A int", "var B int; var A int", api.Change{What: api.WPkgNew}, api.FineClass, ""},
	} {
		c.change.Pkg = "p"
		a, b := world(t, c.old), world(t, c.fresh)
		f, e := Judge(a, b, c.change)
		got := ""
		if f.Client != "" {
			got = lines(t, []string{f.Client}, head)
		}
		if e != api.OK || f.Change != c.change || f.Class != c.class || got != c.want {
			t.Errorf("%s, %s: %d %s %d", c.old, c.fresh, f.Class, got, e)
		}
		if f.Client != "" && !Breaks(a.Src, b.Src, f.Client) {
			t.Error(c, "doesn't break")
		}
	}
	a, b := world(t, "var A int", "q: var B int"), world(t, "var A int")
	if f, e := Judge(a, b, api.Change{What: api.WPkgGone, Pkg: "q"}); f.Class != api.BreakClass || f.Client != "package client\nimport \"q\"\n" || e != api.OK {
		t.Error(f, e)
	}
	if f, e := Judge(a, b, api.Change{What: api.WPkgGone, Pkg: "p"}); f.Class != api.UnsureClass || f.Client != "" || e != api.OK {
		t.Error(f, e)
	}
	for _, what := range []int{0, 6, -1} {
		if f, e := Judge(a, b, api.Change{What: what, Pkg: "p", Name: "A"}); f != (api.Finding{}) || e != api.ErrArg {
			t.Error(f, e)
		}
	}
}

func TestP22_4(t *testing.T) {
	a := world(t, "const A = 1; var B T; type T struct{ X int; y u }; type u []T; func F[X u2](x X) u { return nil }; type u2 interface{ ~int | string }; func (t *T) M() {}; type G[A comparable] map[A]T", "q: import \"p\"; var C p.T")
	items := []string{"A", "B", "T", "F", "G"}
	for _, name := range items {
		for _, what := range []int{api.WGone, api.WOther} {
			f, e := Judge(a, a, api.Change{What: what, Pkg: "p", Name: name})
			if f.Class != api.UnsureClass || f.Client != "" || e != api.OK {
				t.Error(name, f, e)
			}
		}
	}
	b := world(t, "const A = 2; var B T; type T struct{ X string; y u }; type u []T; func F[X u2](x X) u { return nil }; type u2 interface{ ~int }; type G[A any] []A")
	l, _, _ := diff.Changes(a, b)
	if len(l) != 5 {
		t.Error(l)
	}
	for _, c := range l {
		f, e := Judge(a, b, c)
		if e != api.OK || f.Class == api.BreakClass && !Breaks(a.Src, b.Src, f.Client) {
			t.Error(c, f, e)
		}
	}
}

package diff

import (
	"fmt"
	"slices"
	"strings"
	"testing"

	"indenture/api"
	"indenture/check"
)

// world is that of sources, each `p: file || file`, or one file of p.
func world(t *testing.T, l ...string) api.World {
	t.Helper()
	var s []api.Source
	for _, x := range l {
		path, files, ok := strings.Cut(x, ": ")
		if !ok || len(path) != 1 {
			path, files = "p", x
		}
		one := api.Source{Path: path}
		for _, f := range strings.Split(files, " || ") {
			one.Files = append(one.Files, "package "+path+";"+f)
		}
		s = append(s, one)
	}
	w, bad := check.All(s)
	if bad != nil {
		t.Fatal(l, bad)
	}
	return w
}

func show(l []api.Change, pairs []api.Pair) string {
	var s []string
	for _, c := range l {
		s = append(s, []string{"?", "gone", "new", "other", "pkggone", "pkgnew"}[c.What]+" "+c.Pkg+"."+c.Name)
	}
	for _, p := range pairs {
		s = append(s, p.Old+"="+p.New)
	}
	return strings.Join(s, ", ")
}

func TestP21_1(t *testing.T) {
	for _, c := range []struct{ old, fresh, want string }{
		{"const A = 1", "const A = 2; var B int", "other p.A, new p.B"},
		{"const A = 1", "const A = 1", ""},
		{"", "", ""},
		{"const A = 1", "const A = 1.0", "other p.A"},
		{"const A = 1", "const A int = 1", "other p.A"},
		{"const A int = 1", "const A int = 2", "other p.A"},
		{"const A = \"x\"", "const A = \"x\"", ""},
		{"const a = 1; var b int", "const a = 2; func c() {}", ""},
		{"const A = 1", "var A = 1", "other p.A"},
		{"var A int", "func A() {}", "other p.A"},
		{"type A int", "var A int", "other p.A"},
		{"var A int; var C int; var E int", "var B int; var C int; var D int", "gone p.A, new p.B, new p.D, gone p.E"},
		{"var A = 1", "var A int = 2", ""},
		{"var A int", "var A string", "other p.A"},
		{"func A(a int) {}", "func A(b int) {}", ""},
		{"func A(a int) {}", "func A(a int, b int) {}", "other p.A"},
		{"func A(a int) int { return a }", "func A(a int) int { return a + 1 }", ""},
		{"func A[X any](x X) {}", "func A[Y any](y Y) {}", ""},
		{"func A[X any](x X) {}", "func A[X comparable](x X) {}", "other p.A"},
		{"func A[X any](x int) {}", "func A(x int) {}", "other p.A"},
		{"func A[X any, Y any](x X) {}", "func A[X any, Y any](x Y) {}", "other p.A"},
		{"type A int", "type A int", ""},
		{"type A int", "type A string", "other p.A"},
		{"type A struct{ B int }", "type A struct{ B int; C int }", "other p.A"},
		{"type A[X any] []X", "type A[Y any] []Y", ""},
		{"type A[X any] []X", "type A[X ~int] []X", "other p.A"},
		{"type A int; func (a A) M() {}", "type A int", "other p.A"},
		{"type A int; func (a A) m() {}", "type A int; func (a A) n() {}", "other p.A"},
		{"type A struct{ x a }; type a int", "type A struct{ x b }; type b int", "p.a=p.b"},
		// Pairs hold from item to item, but not what an item that is another one left.
		{"var A a; var B a; type a int", "var A b; var B c; type b int; type c int", "other p.B, p.a=p.b"},
		{"var A func(x a) int; var B a; type a int", "var A func(x b) string; var B c; type b int; type c int", "other p.A, p.a=p.c"},
		{"func A[X i, Y i](x a) {}; type i interface{ m(x a) }; type a int", "func A[X j, Y j](x b) {}; type j interface{ m(x b) }; type b int", "p.a=p.b"},
		{"func A[X interface{ m(x a) }](x c) {}; type a int; type c int", "func A[X interface{ m(x b) }](x d) {}; type b int; type d int", "p.a=p.b, p.c=p.d"},
		{"func A[X interface{ m(x a) }](x c) {}; var B c; type a int; type c int", "func A[X interface{ m(x b) }](x b) {}; var B d; type b int; type d int", "other p.A, p.c=p.d"},
		{"type A struct{ x a; y int }; var B a; type a int", "type A struct{ x b; y string }; var B c; type b int; type c int", "other p.A, p.a=p.c"},
		{"var A int || var B int", "var B int; var A int", ""},
	} {
		l, pairs, e := Changes(world(t, c.old), world(t, c.fresh))
		if got := show(l, pairs); got != c.want || e != api.OK {
			t.Errorf("%s, %s: %s %d", c.old, c.fresh, got, e)
		}
	}
}

func TestP21_1Packages(t *testing.T) {
	a := world(t, "z: import \"c\"; var A int; var C c.X", "b: var A t; type t int; type U int", "c: import \"b\"; type X b.U; var B int", "d: var D int")
	b := world(t, "e: var E int", "c: type X int; var B string", "b: var A s; type s int", "a: var D int")
	l, pairs, e := Changes(a, b)
	if got := show(l, pairs); got != "pkgnew a., gone b.U, other c.B, pkggone d., pkgnew e., pkggone z., b.t=b.s" || e != api.OK {
		t.Error(got, e)
	}
	l, pairs, e = Changes(b, a)
	if got := show(l, pairs); got != "pkggone a., new b.U, other c.B, pkgnew d., pkggone e., pkgnew z., b.s=b.t" || e != api.OK {
		t.Error(got, e)
	}
}

func TestP21_1Wrong(t *testing.T) {
	a := world(t, "var A int")
	bad := a
	bad.Objs = nil
	for _, w := range [][2]api.World{{a, bad}, {bad, a}, {api.World{}, api.World{}}} {
		if l, p, e := Changes(w[0], w[1]); l != nil || p != nil || e != api.ErrArg {
			t.Error(l, p, e)
		}
	}
	// A world that is not checked may be: what has no type is not the same.
	un := world(t, "var A int; const B = 1; type C int; func D() {}")
	un.Objs = slices.Clone(un.Objs)
	for i := range un.Objs {
		un.Objs[i].Type = -1
	}
	l, p, e := Changes(un, un)
	if got := show(l, p); got != "other p.A, other p.B, other p.D" || e != api.OK {
		t.Error(got, e)
	}
}

func TestP21_2(t *testing.T) {
	texts := []string{
		"const A = 1; var b B; type B struct{ c; x *b2 }; type c int; type b2 []b2; func F[X c2](x X) b2 { return nil }; type c2 interface{ ~int | *c }",
		"type T[A comparable, B ~[]A] struct{ m map[A]B; n *T[A, B] }; func (t T[X, Y]) M(x X) Y { return t.m[x] }; var V T[string, []string]; const S string = \"x\"",
		"var A t; var B map[t]u; type t struct{ x u }; type u interface{ m(a t) }; func G(a t, b u) t { return a }",
		"",
	}
	var all []api.World
	for _, s := range texts {
		all = append(all, world(t, s))
	}
	for i, a := range all {
		if l, pairs, e := Changes(a, a); len(l) != 0 || e != api.OK || slices.ContainsFunc(pairs, func(p api.Pair) bool { return p.Old != p.New }) {
			t.Error(i, show(l, pairs), e)
		}
		for k, b := range all {
			l, _, _ := Changes(a, b)
			m, _, _ := Changes(b, a)
			back := map[int]int{api.WGone: api.WNew, api.WNew: api.WGone, api.WOther: api.WOther, api.WPkgGone: api.WPkgNew, api.WPkgNew: api.WPkgGone}
			for n := range l {
				l[n].What = back[l[n].What]
			}
			if !slices.Equal(l, m) {
				t.Error(i, k, show(l, nil), show(m, nil))
			}
		}
		for _, more := range []string{"var Zz int", "type Zz struct{ x int }", "var Zz = 1"} {
			l, _, e := Changes(a, world(t, strings.TrimPrefix(texts[i]+";"+more, ";")))
			if got := show(l, nil); got != "new p.Zz" || e != api.OK {
				t.Error(i, more, got)
			}
		}
	}
	if fmt.Sprint(all[3].Prog.Paths) != "[p]" {
		t.Error("changed")
	}
}

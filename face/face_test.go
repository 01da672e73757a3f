package face

import (
	"fmt"
	"slices"
	"strings"
	"testing"

	"indenture/api"
	"indenture/check"
	"indenture/unit"
)

// world is that of sources, each `p: file || file`, or one file of p.
func world(t *testing.T, l ...string) api.World {
	t.Helper()
	var s []api.Source
	for _, x := range l {
		path, files, ok := strings.Cut(x, ": ")
		if !ok || len(path) != 1 {
			path, files = "p", x
		}
		one := api.Source{Path: path}
		for _, f := range strings.Split(files, " || ") {
			one.Files = append(one.Files, "package "+path+";"+f)
		}
		s = append(s, one)
	}
	w, bad := check.All(s)
	if bad != nil {
		t.Fatal(l, bad)
	}
	return w
}

// typeOf is the type of p.V.
func typeOf(w api.World) int {
	for i, d := range w.Prog.Decls {
		if d.Name == "V" {
			return w.Objs[i].Type
		}
	}
	return -1
}

func showPairs(l []api.Pair) string {
	var s []string
	for _, p := range l {
		s = append(s, p.Old+"="+p.New)
	}
	return strings.Join(s, " ")
}

func pairs(s string) []api.Pair {
	var l []api.Pair
	for _, f := range strings.Fields(s) {
		a, b, _ := strings.Cut(f, "=")
		l = append(l, api.Pair{Old: a, New: b})
	}
	return l
}

func TestP20_1(t *testing.T) {
	w := world(t, "q: import \"a\"; const Z = 1; const y = 1; var B = a.X; type A int; func (x A) M() {}; func C() {}; var _ int || type _A int; func AA() {}; type T struct{}", "a: const X = 1; func b() {}")
	l, e := Items(w)
	got := ""
	for _, x := range l {
		d := w.Prog.Decls[x.Decl]
		if d.Name != x.Name || d.Pkg != x.Pkg || d.Kind != x.Kind {
			t.Error(x)
		}
		got += fmt.Sprintf("%s.%s:%d ", x.Pkg, x.Name, x.Kind)
	}
	if want := "a.X:1 q.A:3 q.AA:4 q.B:2 q.C:4 q.T:3 q.Z:1 "; got != want || e != api.OK {
		t.Error(got, e)
	}
	if l, e := Items(world(t, "var a int")); len(l) != 0 || e != api.OK {
		t.Error(l, e)
	}
	w.Objs = nil
	if l, e := Items(w); l != nil || e != api.ErrArg {
		t.Error(l, e)
	}
}

func TestP20_2Alike(t *testing.T) {
	for _, c := range []struct {
		old, fresh, with string
		so               bool
		want             string
	}{
		{"var V t; type t int", "var V u; type u int", "", true, "p.t=p.u"},
		{"var V int", "var V int", "", true, ""},
		{"var V int", "var V int8", "", false, ""},
		{"var V byte", "var V uint8", "", true, ""},
		{"var V []int", "var V []int", "a=b", true, "a=b"},
		{"var V []int", "var V [1]int", "", false, ""},
		{"var V [2]int", "var V [1]int", "", false, ""},
		{"var V map[string]*int", "var V map[string]*int", "", true, ""},
		{"var V map[string]*int", "var V map[int]*int", "", false, ""},
		{"var V func(a int) string", "var V func(b int) string", "", true, ""},
		{"var V func(a int) string", "var V func(a int, b string)", "", false, ""},
		{"var V func(a int)", "var V func() int", "", false, ""},
		{"var V struct{ a int; B string }", "var V struct{ a int; B string }", "", true, ""},
		{"var V struct{ a int; B string }", "var V struct{ B string; a int }", "", false, ""},
		{"var V struct{ a int }", "var V struct{ b int }", "", false, ""},
		{"type X int; var V struct{ X }", "type X int; var V struct{ X X }", "", false, ""},
		{"var V interface{ a(); b() int }", "var V interface{ b() int; a() }", "", true, ""},
		{"var V interface{ a() }", "var V interface{ a() int }", "", false, ""},
		{"var V interface{ a() }", "var V interface{ a(); b() }", "", false, ""},
		{"var V any", "var V interface{}", "", true, ""},
		// names that are shown
		{"var V T; type T int", "var V T; type T string", "", true, ""},
		{"var V T; type T int", "var V U; type U int", "", false, ""},
		{"var V T; type T int", "var V t; type t int", "", false, ""},
		{"var V t; type t int", "var V T; type T int", "", false, ""},
		{"var V T[int]; type T[A any] int", "var V T[int]; type T[A any] int", "", true, ""},
		{"var V T[int]; type T[A any] int", "var V T[string]; type T[A any] int", "", false, ""},
		{"var V T[int]; type T[A any] int", "var V T; type T int", "", false, ""},
		{"var V T[t]; type T[A any] int; type t string", "var V T[u]; type T[A any] int; type u string", "", true, "p.t=p.u"},
		// names that are not
		{"var V t; type t int", "var V t; type t int", "", true, "p.t=p.t"},
		{"var V t; type t int", "var V u; type u string", "", false, ""},
		{"var V t; type t int", "var V u; type u string", "p.t=p.u", true, "p.t=p.u"},
		{"var V t; type t int", "var V u; type u int", "p.t=p.x", false, ""},
		{"var V t; type t int", "var V u; type u int", "p.x=p.u", false, ""},
		{"var V t; type t int", "var V u; type u int", "p.t=p.x p.x=p.u", false, ""},
		{"var V t; type t int", "var V u; type u int", "p.x=p.y", true, "p.x=p.y p.t=p.u"},
		{"var V struct{ a t; b t }; type t int", "var V struct{ a u; b u }; type u int", "", true, "p.t=p.u"},
		{"var V struct{ a t; b t }; type t int", "var V struct{ a u; b w }; type u int; type w int", "", false, ""},
		{"var V struct{ a t; b s }; type t int; type s int", "var V struct{ a u; b u }; type u int", "", false, ""},
		{"var V t; type t struct{ n *t; m map[string]s }; type s []t", "var V u; type u struct{ n *u; m map[string]w }; type w []u", "", true, "p.t=p.u p.s=p.w"},
		{"var V t; type t struct{ n *t; m s }; type s []t", "var V u; type u struct{ n *u; m w }; type w []*u", "", false, ""},
		{"var V t[int]; type t[A any] []A", "var V u[int]; type u[B any] []B", "", true, "p.t=p.u"},
		{"var V t[int]; type t[A any] []A", "var V u[int]; type u[B comparable] []B", "", false, ""},
		{"var V t[int, int]; type t[A any, B any] map[int]A", "var V u[int, int]; type u[A any, B any] map[int]B", "", false, ""},
		{"var V t; type t int; func (x t) M() {}", "var V u; type u int; func (x u) M() {}", "", true, "p.t=p.u"},
		{"var V t; type t int; func (x t) M() {}", "var V u; type u int; func (x *u) M() {}", "", false, ""},
		{"var V t; type t int; func (x t) M() {}", "var V u; type u int; func (x u) N() {}", "", false, ""},
		{"var V t; type t int; func (x t) M() {}", "var V u; type u int", "", false, ""},
		{"var V t; type t int; func (x t) M(a s) {}; type s int", "var V u; type u int; func (x u) M(a w) {}; type w int", "", true, "p.t=p.u p.s=p.w"},
		{"var V t; type t int; func (x t) M(a s) {}; type s int", "var V u; type u int; func (x u) M(a w) {}; type w string", "", false, ""},
		// the order of pairs: kids, bounds, what it is, methods
		{"var V t[k]; type t[A b] c; type k int; type b interface{ x(a bb) }; type bb int; type c struct { cc cc }; type cc int; func (x t[A]) M(a m) {}; type m int; func (x k) x(a bb) {}", "var V t[k]; type t[A b] c; type k int; type b interface{ x(a bb) }; type bb int; type c struct { cc cc }; type cc int; func (x t[A]) M(a m) {}; type m int; func (x k) x(a bb) {}", "", true, "p.t=p.t p.k=p.k p.cc=p.cc p.m=p.m p.bb=p.bb"},
	} {
		a, b := world(t, c.old), world(t, c.fresh)
		before := pairs(c.with)
		l, so, e := Alike(a, b, typeOf(a), typeOf(b), before)
		if so != c.so || e != api.OK || showPairs(l) != c.want || !so && l != nil {
			t.Errorf("%s, %s, %s: %s %v %d", c.old, c.fresh, c.with, showPairs(l), so, e)
		}
		if showPairs(before) != c.with {
			t.Error("changed")
		}
		// The other way round, with pairs turned about.
		m, so, _ := Alike(b, a, typeOf(b), typeOf(a), turned(before))
		x, y := turned(m), slices.Clone(l)
		order := func(p, q api.Pair) int { return strings.Compare(p.Old, q.Old) }
		slices.SortFunc(x, order)
		slices.SortFunc(y, order)
		if so != c.so || !slices.Equal(x, y) {
			t.Errorf("%s, %s turned about: %s", c.old, c.fresh, showPairs(m))
		}
		// With what they became they are alike, and stay.
		if c.so {
			if m, so, _ := Alike(a, b, typeOf(a), typeOf(b), l); !so || !slices.Equal(m, l) {
				t.Errorf("%s, %s again: %s", c.old, c.fresh, showPairs(m))
			}
		}
	}
}

func turned(l []api.Pair) []api.Pair {
	var m []api.Pair
	for _, p := range l {
		m = append(m, api.Pair{Old: p.New, New: p.Old})
	}
	return m
}

// TestTerms: terms may stand in another order, and are the same.
func TestTerms(t *testing.T) {
	for _, c := range []struct {
		old, fresh string
		so         bool
	}{
		{"type T interface{ *int | ~[]int }", "type x []int; type y *int; type T interface{ ~[]int | *int }", true},
		{"type T interface{ *int | ~[]int }", "type T interface{ ~*int | []int }", false},
		{"type T interface{ *int | ~[]int }", "type T interface{ *int }", false},
		{"type T interface{ *int }", "type T interface{ *int | ~[]int }", false},
		{"type T interface{ m(); ~func() }", "type T interface{ ~func(); m() }", true},
		{"type T interface{ m(); func() }", "type T interface{ func(); m() }", true},
		{"type T interface{ m() int; func() }", "type T interface{ m(); func() }", false},
		{"type T interface{ *t }; type t int", "type T interface{ *u }; type u int", false},
		{"type T interface{ *t }; type t int", "type T interface{ *t }; type t int", true},
		{"type T interface{ *t }; type t int", "type T interface{ *t }; type t string", false},
		{"type T interface{ comparable }", "type T interface{ }", false},
		{"type T interface{ int; string }", "type T interface{ bool; string }", true},
		{"type T interface{ int; string }", "type T interface{ bool; comparable }", false},
	} {
		a, b := world(t, c.old), world(t, c.fresh)
		if _, so, e := Defined(a, b, "p.T", "p.T", nil); so != c.so || e != api.OK {
			t.Error(c, so, e)
		}
		if _, so, e := Defined(b, a, "p.T", "p.T", nil); so != c.so || e != api.OK {
			t.Error(c, so, e)
		}
	}
}

func TestP20_2Defined(t *testing.T) {
	for _, c := range []struct {
		old, fresh, with string
		so               bool
		want             string
	}{
		{"type T int", "type U int", "", true, ""},
		{"type T struct{ a t }; type t int", "type U struct{ a u }; type u int", "", true, "p.t=p.u"},
		{"type T struct{ a t }; type t int", "type U struct{ a u }; type u int", "p.t=p.x", false, ""},
		{"type T struct{ a *T }", "type U struct{ a *U }", "", false, ""},
		{"type T struct{ a *T }; type U int", "type T int; type U struct{ a *T }", "", true, ""},
		{"type T[A any] []A", "type U[B any] []B", "", true, ""},
		{"type T[A any] []A", "type U []int", "", false, ""},
		{"type T int; func (t T) M(x T) {}", "type U int; func (t U) M(x U) {}", "", false, ""},
		{"type T int; func (t T) M(x int) {}", "type U int; func (t U) M(x int) {}", "", true, ""},
	} {
		a, b := world(t, c.old), world(t, c.fresh)
		l, so, e := Defined(a, b, "p.T", "p.U", pairs(c.with))
		if so != c.so || e != api.OK || showPairs(l) != c.want || !so && l != nil {
			t.Error(c, showPairs(l), so, e)
		}
	}
}

func TestP20_2Wrong(t *testing.T) {
	a, b := world(t, "type T int; var V t; type t int"), world(t, "type U int; var V u; type u int")
	wrong := a
	wrong.Prog.Paths = nil
	many := func(n int) []api.Pair {
		var l []api.Pair
		for i := range n {
			l = append(l, api.Pair{Old: fmt.Sprint("a", i), New: fmt.Sprint("b", i)})
		}
		return l
	}
	for _, p := range [][]api.Pair{pairs("a=b a=c"), pairs("b=a c=a"), pairs("a=a a=a"), many(61)} {
		if l, so, e := Alike(a, b, -1, 0, p); l != nil || so || e != api.ErrArg {
			t.Error(p, l, so, e)
		}
		if l, so, e := Defined(a, b, "x", "y", p); l != nil || so || e != api.ErrArg {
			t.Error(p, l, so, e)
		}
	}
	for _, w := range [][2]api.World{{wrong, b}, {a, wrong}, {api.World{}, api.World{}}} {
		if l, so, e := Alike(w[0], w[1], -1, 0, nil); l != nil || so || e != api.ErrArg {
			t.Error(l, so, e)
		}
		if l, so, e := Defined(w[0], w[1], "x", "y", nil); l != nil || so || e != api.ErrArg {
			t.Error(l, so, e)
		}
	}
	for _, c := range [][2]int{{-1, 0}, {0, -1}, {len(a.Unit.Types), 0}, {0, len(b.Unit.Types)}} {
		if l, so, e := Alike(a, b, c[0], c[1], nil); l != nil || so || e != api.ErrNone {
			t.Error(c, l, so, e)
		}
	}
	for _, c := range [][2]string{{"p.U", "p.U"}, {"p.T", "p.T"}, {"", ""}, {"T", "U"}} {
		if l, so, e := Defined(a, b, c[0], c[1], nil); l != nil || so || e != api.ErrNone {
			t.Error(c, l, so, e)
		}
	}
	// No more than 60 pairs.
	if l, so, e := Alike(a, b, typeOf(a), typeOf(b), many(60)); l != nil || so || e != api.OK {
		t.Error(len(l), so, e)
	}
	if l, so, e := Alike(a, b, typeOf(a), typeOf(b), many(59)); len(l) != 60 || !so || e != api.OK {
		t.Error(len(l), so, e)
	}
	if l, so, e := Alike(a, b, typeOf(a), typeOf(b), append(many(59), pairs("p.t=p.u")...)); len(l) != 60 || !so || e != api.OK {
		t.Error(len(l), so, e)
	}
	// Nothing is written behind a list's end.
	room := append(make([]api.Pair, 0, 10), pairs("x=y")...)
	Alike(a, b, typeOf(a), typeOf(b), room)
	if room[:2][1] != (api.Pair{}) {
		t.Error(room[:2])
	}
}

func TestP20_3(t *testing.T) {
	w := world(t, "type T struct{ a t; b map[string]s[t]; I }; type t int; type s[A any] []A; type I interface{ n(a i) }; type i struct{}; func (x *T) M(a t) s[i] { return nil }; type C interface{ ~[]t | *i }; var v map[t][]s[s[i]]")
	var same []api.Pair
	for _, n := range w.Unit.Named {
		if !shown(n.Name) {
			same = append(same, api.Pair{Old: n.Name, New: n.Name})
		}
	}
	for i := range w.Unit.Types {
		l, so, e := Alike(w, w, i, i, same)
		if !so || e != api.OK || !slices.Equal(l, same) {
			t.Error(i, so, e)
		}
		l, so, e = Alike(w, w, i, i, nil)
		if !so || e != api.OK {
			t.Error(i, so, e)
		}
		for _, p := range l {
			if p.Old != p.New {
				t.Error(i, p)
			}
		}
	}
	for _, n := range w.Unit.Named {
		if _, so, e := Defined(w, w, n.Name, n.Name, same); !so || e != api.OK {
			t.Error(n.Name, so, e)
		}
	}
	if !unit.Right(w.Unit) {
		t.Error("changed")
	}
}

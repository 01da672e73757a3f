package decl

import (
	"fmt"
	"slices"
	"strings"
	"testing"

	"indenture/api"
	"indenture/typ"
	"indenture/unit"
)

// sources are of texts such as `p: file || file`; what is wrong is to be told where a § stands, which is no part of them.
func sources(l ...string) ([]api.Source, api.Bad) {
	var s []api.Source
	var bad api.Bad
	for _, x := range l {
		path, files, ok := strings.Cut(x, ": ")
		if !ok || !isPath(path) {
			path, files = "p", x
		}
		one := api.Source{Path: path}
		for no, f := range strings.Split(files, " || ") {
			f = "package " + path + ";" + f
			if at := strings.Index(f, "§"); at >= 0 {
				bad.Pkg, bad.File, bad.At = path, no, at
				f = strings.Replace(f, "§", "", 1)
			}
			one.Files = append(one.Files, f)
		}
		s = append(s, one)
	}
	return s, bad
}

func isPath(s string) bool { return len(s) == 1 }

func showBad(l []api.Bad) string {
	var s []string
	for _, b := range l {
		s = append(s, fmt.Sprintf("%s.%d@%d:%d", b.Pkg, b.File, b.At, b.Why))
	}
	return strings.Join(s, " ")
}

// resolve is a world that has nothing wrong.
func resolve(t *testing.T, l ...string) api.World {
	t.Helper()
	s, _ := sources(l...)
	w, bad := Resolve(s)
	if bad != nil || !Right(w) {
		t.Fatal(l, showBad(bad))
	}
	return w
}

func text(w api.World, i int) string {
	if i < 0 {
		return "none"
	}
	s, _ := typ.Text(w.Unit.Types, i)
	return s
}

func texts(w api.World, l []int) string {
	var s []string
	for _, i := range l {
		s = append(s, text(w, i))
	}
	return strings.Join(s, " & ")
}

// show writes what a world's unit tells of a name, or of a declaration, if there is no type of that name.
func show(w api.World, name string) string {
	if i, e := unit.Find(w.Unit, name); e == api.OK {
		n := w.Unit.Named[i]
		s := text(w, n.Under)
		if len(n.Bounds) > 0 {
			s = "[" + texts(w, n.Bounds) + "] " + s
		}
		for _, m := range n.Methods {
			s += fmt.Sprint(" ", m.Name, map[bool]string{true: "*", false: ""}[m.Ptr], text(w, m.Sig)[4:])
		}
		return s
	}
	for i, d := range w.Prog.Decls {
		if d.Pkg+"."+d.Name == name {
			return strings.TrimSpace(text(w, w.Objs[i].Type) + " " + texts(w, w.Objs[i].Bounds))
		}
	}
	return "?"
}

func empty(w api.World) bool {
	return w.Src == nil && w.Prog.Paths == nil && w.Unit.Types == nil && w.Unit.Named == nil && w.Objs == nil
}

// checkWrong resolves sources that have something wrong, where a § stands.
func checkWrong(t *testing.T, why api.Errno, l ...string) {
	t.Helper()
	s, want := sources(l...)
	want.Why = why
	w, bad := Resolve(s)
	if len(bad) != 1 || bad[0] != want || !empty(w) {
		t.Errorf("%q: %s, not %s", l, showBad(bad), showBad([]api.Bad{want}))
	}
}

func TestP17_2(t *testing.T) {
	for _, c := range []struct{ text, name, want string }{
		{"type T U; type U []T", "p.T", "[]p.T"},
		{"type T U; type U V; type V int", "p.T", "int"},
		{"type T struct{ a int; B string; _ T2; _ int; *T2 }; type T2 bool", "p.T", "struct{a int; B string; _ p.T2; _ int; +T2 *p.T2}"},
		{"type T [3]*[0x10]map[string]func(a byte, b rune) any", "p.T", "[3]*[16]map[string]func(uint8, int32) interface{}"},
		{"type T (func(a int))", "p.T", "func(int)"},
		{"type T [0]int", "p.T", "[0]int"},
		{"type T [2147483648]int", "p.T", "[2147483648]int"},
		{"type T interface{ b(); a(x int) T }", "p.T", "interface{a(int) p.T; b()}"},
		{"type T interface{ int | ~string; comparable; m() }", "p.T", "interface{comparable; m(); ~string | int}"},
		{"type T interface{ U; V; m() }; type U interface{ a() }; type V interface{ b() }", "p.T", "interface{a(); b(); m()}"},
		{"type T interface{ ~int | string; int | ~string | bool }", "p.T", "interface{string | int}"},
		{"type T interface{ interface{ int } }", "p.T", "interface{int}"},
		{"type T interface{ int; string }", "p.T", "interface{none}"},
		{"type C interface{ comparable }; type D interface{ C; any }", "p.D", "interface{comparable}"},
		{"type T interface{ []int | ~[]int2 }; type int2 int", "p.T", "interface{[]int | ~[]p.int2}"},
		{"type T[A any, B ~[]A | int] map[int]B", "p.T", "[interface{} & interface{int | ~[]#0}] map[int]#1"},
		{"type T[A comparable] struct{ a A; b *T[A] }", "p.T", "[interface{comparable}] struct{a #0; b *p.T[#0]}"},
		{"type T[A any] []A; type U T[int]", "p.U", "[]int"},
		{"type T[A any] []A; type U T[T[A2]]; type A2 int", "p.U", "[]p.T[p.A2]"},
		{"type T[A interface{ m(a A) }] int", "p.T", "[interface{m(#0)}] int"},
		{"type T[_ any, _ any] int", "p.T", "[interface{} & interface{}] int"},
		{"type int string; type T int", "p.T", "string"},
		{"type T struct{}; func (t T) B(a int) {}; func (t *T) A() T { return t }; func (_ T) _() {}", "p.T", "struct{} A*() p.T B(int)"},
		{"type T[A any, B any] struct{}; func (t T[X, _]) A(x X) {}; func (t *T[_, Y]) B(x T[Y, Y]) {}", "p.T", "[interface{} & interface{}] struct{} A(#0) B*(p.T[#1, #1])"},
		{"func f(a int, _ string, _ bool) T { return a }; type T int", "p.f", "func(int, string, bool) p.T"},
		{"func f[A any, B ~[]A](a A) B {}", "p.f", "func(#0) #1 interface{} & interface{~[]#0}"},
		{"func f[A ~[]B, B any]() {}", "p.f", "func() interface{~[]#1} & interface{}"},
		{"const c int = 1", "p.c", "int"},
		{"const c = 1", "p.c", "none"},
		{"var v = 1", "p.v", "none"},
		{"var v []T; type T int", "p.v", "[]p.T"},
		{"var v T = 1; type T int", "p.v", "p.T"},
		{"type _ struct{ a T }; type T int; type _[A any, B ~[]A] T", "p._", "none"},
		{"type T interface{ U | int }; type U string", "p.T", "interface{int | p.U}"},
		{"type T[P interface{ *U }, U any] struct { p P }", "p.T", "[interface{*#1} & interface{}] struct{p #0}"},
	} {
		w := resolve(t, c.text)
		if got := show(w, c.name); got != c.want {
			t.Errorf("%s: %s", c.text, got)
		}
	}
}

func TestP17_2Packages(t *testing.T) {
	w := resolve(t, "p: type T struct{ a U; b U2 } || import \"q\"; type U []q.T; type U2 q.G[q.T]; type U3 struct{ q.T; *q.G[int]; q q.T }; type I interface{ ~[]q.T | q.U }", "q: type T int; type G[A any] struct{ a A }; type U string")
	for name, want := range map[string]string{"p.T": "struct{a p.U; b p.U2}", "p.U": "[]q.T", "p.U2": "struct{a q.T}", "p.U3": "struct{+T q.T; +G *q.G[int]; q q.T}"} {
		if got := show(w, name); got != want {
			t.Error(name, got)
		}
	}
	if got := show(w, "p.I"); got != "interface{~[]q.T | q.U}" {
		t.Error(got)
	}
	if !slices.Equal(w.Prog.Paths, []string{"q", "p"}) || len(w.Src) != 2 {
		t.Error(w.Prog.Paths)
	}
}

// TestP17_2Arena: types are put in, in order.
func TestP17_2Arena(t *testing.T) {
	w := resolve(t, "type T U; type U []T; type G[A any, B ~[]A] struct { x A; y B; *T }; func (g *G[X, Y]) M(a X) Y {}; var v G[int, U2]; type U2 []int; const c int = 1")
	var got []string
	for i := api.YBasics; i < len(w.Unit.Types); i++ {
		got = append(got, text(w, i))
	}
	want := "struct{} & p.T & []p.T & p.U & #0 & []#0 & interface{~[]#0} & #1 & *p.T & struct{x #0; y #1; +T *p.T} & []int & func(#0) #1 & p.G[#0, #1] & p.U2 & p.G[int, p.U2] & interface{~[]int} & struct{x int; y p.U2; +T *p.T}"
	if s := strings.Join(got, " & "); s != want {
		t.Error(s)
	}
	w = resolve(t, "")
	if len(w.Unit.Types) != api.YBasics+1 || text(w, api.YBasics) != "struct{}" || len(w.Unit.Named) != 0 || len(w.Objs) != 0 {
		t.Error(len(w.Unit.Types))
	}
	// What each is.
	w = resolve(t, "type T[A comparable, B any] int; func (t T[X, Y]) M(x X) Y {}; type _[A ~int] A2; type A2 int")
	for i, want := range []string{"p.T[#0, #1] interface{comparable} & interface{}", "func(#0) #1 interface{comparable} & interface{}", "none interface{~int}", "p.A2 "} {
		if got := text(w, w.Objs[i].Type) + " " + texts(w, w.Objs[i].Bounds); got != want {
			t.Error(i, got)
		}
	}
}

func TestP17_2Nodes(t *testing.T) {
	for _, c := range []struct {
		why api.Errno
		s   string
	}{
		// 1
		{api.ErrNone, "type T §x"}, {api.ErrType, "var x int; type T §x"}, {api.ErrType, "type T[A any] int; type U §T"}, {api.ErrType, "type _ int; type T []§_"}, {api.ErrType, "func f(x §f) {}"}, {api.ErrNone, "type T int; func (t T) m() {}; var x §m"}, {api.ErrNone, "type T §_"}, {api.ErrNone, "var x §error"}, {api.ErrType, "func x() {}; type int int8; const c §x = 1"},
		// 2
		{api.ErrNone, "type T §q.X"}, {api.ErrNone, "type T struct{}; var x §T.X"}, {api.ErrNone, "func f[A any](a §A.X) {}"},
		// 3
		{api.ErrNone, "type T §x[int]"}, {api.ErrType, "type T §int[int]"}, {api.ErrType, "func f[A any](a §A[int]) {}"}, {api.ErrType, "type U int; type T §U[int]"}, {api.ErrType, "type U[A any] int; type T §U[int, int]"}, {api.ErrNone, "type U int; type T U[§x]"}, {api.ErrType, "type _[A any] int; type T []§_[int]"}, {api.ErrType, "var v int; type T §v[int]"}, {api.ErrNone, "var v int; type T v[§x]"},
		// 4
		{api.ErrType, "const c = 1; type T []§[c]int"}, {api.ErrType, "type T §[1 + 1]x"}, {api.ErrSyntax, "type T §[08]x"}, {api.ErrMany, "type T §[2147483649]x"}, {api.ErrNone, "type T [2147483648]§x"}, {api.ErrOver, "type T §[0xf" + strings.Repeat("f", 128) + "]x"}, {api.ErrType, "type T §['a']x"}, {api.ErrMany, "type T §[" + strings.Repeat("1", 151) + "]x"}, {api.ErrNone, "type T map[§x]y"},
		// 5
		{api.ErrNone, "type T func(a §x, a y)"}, {api.ErrTwice, "type T §func(_ int, a int, _ int, a x)"}, {api.ErrTwice, "func f§(a int, a int) {}"}, {api.ErrTwice, "type T interface{ m§(a int, a int) }"}, {api.ErrNone, "type T func(a int) §x"}, {api.ErrMany, "type T §func(" + strings.Repeat("_ int, ", 16) + ") int"},
		// 6
		{api.ErrTwice, "type T struct{ a int; §a x }"}, {api.ErrNone, "type T struct{ a §x; a int }"}, {api.ErrTwice, "type T struct{ a int; §a }; type a int"}, {api.ErrTwice, "type T struct{ *U; §U int }; type U int"}, {api.ErrType, "type T struct{ §**U; U x }; type U int"}, {api.ErrType, "type T struct{ §*[]U }; type U int"}, {api.ErrType, "type T struct{ §*(U) }; type U int"}, {api.ErrMany, "type T §struct{" + strings.Repeat("_ int; ", 17) + "}"}, {api.ErrNone, "type T struct{ §x.y[int] }"},
		// 7
		{api.ErrType, "type T interface{ a(x int); §_() }"}, {api.ErrTwice, "type T interface{ a(); §a(x y) }"}, {api.ErrNone, "type T interface{ a(x §y); a() }"}, {api.ErrTwice, "type T interface{ a(); §U }; type U interface{ a() int }"}, {api.ErrNone, "type T interface{ U; a(x §y) }; type U interface{ a() int }"}, {api.ErrMany, "type T §interface{ a(); b(); c(); d(); e(); f(); g(); h(); i(); j(); k(); l(); m(); n(); o(); p(); q() }"}, {api.ErrArg, "type T interface{ a(); b(); c(); d(); e(); f(); g(); h(); i(); j(); k(); l(); m(); n(); o(); p(); §int }"}, {api.ErrNone, "type T interface{ int | §x }"},
		{api.ErrType, "func f[A any, B interface{ int | §A }]() {}"}, {api.ErrType, "type T interface{ int | §U }; type U interface{}"}, {api.ErrType, "type T interface{ §~U }; type U int"}, {api.ErrType, "type T interface{ §~U }; type U interface{}"}, {api.ErrTwice, "type T interface{ int | ~string | §~int }"}, {api.ErrType, "type T interface{ int | §any | x2 }; type x2 int"}, {api.ErrNone, "type T interface{ int | any | §x }"}, {api.ErrTwice, "type T interface{ int | §int | any }"}, {api.ErrType, "func f[A any, B §A]() {}"},
		{api.ErrMany, "type T interface{ §[1]int|[2]int|[3]int|[4]int|[5]int|[6]int|[7]int|[8]int|[9]int|[10]int|[11]int|[12]int|[13]int|[14]int|[15]int|[16]int|[17]int }"},
	} {
		checkWrong(t, c.why, c.s)
	}
}

package check

import (
	"fmt"
	"slices"
	"strings"
	"testing"

	"indenture/api"
	"indenture/decl"
	"indenture/konst"
	"indenture/typ"
	"indenture/unit"
)

// sources are of texts such as `p: file || file`; what is wrong is to be told where a § stands, which is no part of them.
func sources(l ...string) ([]api.Source, api.Bad) {
	var s []api.Source
	var bad api.Bad
	for _, x := range l {
		path, files, ok := strings.Cut(x, ": ")
		if !ok || len(path) != 1 {
			path, files = "p", x
		}
		one := api.Source{Path: path}
		for no, f := range strings.Split(files, " || ") {
			f = "package " + path + ";" + f
			if at := strings.Index(f, "§"); at >= 0 {
				bad.Pkg, bad.File, bad.At = path, no, at
				f = strings.Replace(f, "§", "", 1)
			}
			one.Files = append(one.Files, f)
		}
		s = append(s, one)
	}
	return s, bad
}

func world(t *testing.T, l ...string) api.World {
	t.Helper()
	s, _ := sources(l...)
	w, bad := All(s)
	if bad != nil || !decl.Right(w) || !Whole(w) {
		t.Fatal(l, bad)
	}
	return w
}

// show writes what a declaration is.
func show(w api.World, name string) string {
	for i, d := range w.Prog.Decls {
		if d.Pkg+"."+d.Name != name {
			continue
		}
		o := w.Objs[i]
		s := "none"
		if o.Type >= 0 {
			s, _ = typ.Text(w.Unit.Types, o.Type)
		}
		if o.Val.Kind != api.VNone {
			v, _ := konst.Text(o.Val)
			s += " " + v
		}
		return s
	}
	return "?"
}

func checkWrong(t *testing.T, why api.Errno, l ...string) {
	t.Helper()
	s, want := sources(l...)
	want.Why = why
	w, bad := All(s)
	if len(bad) != 1 || bad[0] != want || w.Src != nil || w.Objs != nil {
		t.Errorf("%q: %v, not %v", l, bad, want)
	}
}

func TestP19_1Values(t *testing.T) {
	for _, c := range []struct{ text, name, want string }{
		{"var b = a; const a = 1", "p.b", "int"},
		{"const a = 1", "p.a", "untyped int 1"}, {"const a = 'x' + 1", "p.a", "untyped rune 121"}, {"const a = 1.5", "p.a", "untyped float 3/2"}, {"const a = 1 == 2", "p.a", "untyped bool false"}, {"const a = \"x\"", "p.a", "untyped string \"x\""}, {"const a int8 = 100", "p.a", "int8 100"}, {"const a float32 = 0.1", "p.a", "float32 13421773/134217728"}, {"type T int; const a T = 2.0", "p.a", "p.T 2"}, {"type T int; const a = T(7)", "p.a", "p.T 7"}, {"const a = b * 2; const b = c + 1; const c int8 = 3", "p.a", "int8 8"}, {"const a string = \"x\" + \"y\"", "p.a", "string \"xy\""}, {"type T bool; const a T = 1 < 2", "p.a", "p.T true"}, {"const a float64 = 1; const b = a / 3", "p.b", "float64 6004799503160661/18014398509481984"}, {"const a = 1 << 100", "p.a", "untyped int 1267650600228229401496703205376"},
		{"var a int", "p.a", "int"}, {"var a []string = nil", "p.a", "[]string"}, {"var a = 1", "p.a", "int"}, {"var a = 'x'", "p.a", "int32"}, {"var a = 1.0", "p.a", "float64"}, {"var a = \"x\"", "p.a", "string"}, {"var a = true", "p.a", "bool"}, {"var b int; var a = b == 1", "p.a", "bool"}, {"var a = f; func f(x int) bool { return x == 1 }", "p.a", "func(int) bool"}, {"var a = f(); func f() T { return b }; var b T; type T struct{}", "p.a", "p.T"}, {"type T int; func (t T) m() string { return \"\" }; var a = T(1).m()", "p.a", "string"}, {"var a any = 1", "p.a", "interface{}"}, {"var a = b; var b = c; var c int8", "p.a", "int8"}, {"func g[A any](a A) A { return a }; var a = g[int8](1)", "p.a", "int8"},
	} {
		if got := show(world(t, c.text), c.name); got != c.want {
			t.Errorf("%s: %s", c.text, got)
		}
	}
	w := world(t, "p: import \"q\"; var a = q.B + 1; const c = q.C || import \"q\"; type T q.T; var t T", "q: const B int8 = 2; const C = 3; type T struct{ X int }")
	for name, want := range map[string]string{"p.a": "int8", "p.c": "untyped int 3", "p.t": "p.T", "q.C": "untyped int 3"} {
		if got := show(w, name); got != want {
			t.Error(name, got)
		}
	}
}

func TestP19_1Wrong(t *testing.T) {
	s, _ := sources("var a int; var a int; func (t U) m() {}")
	if w, bad := All(s); len(bad) != 2 || w.Src != nil {
		t.Error(bad)
	}
	long := "\"" + strings.Repeat("x", 150) + "\""
	for _, c := range []struct {
		why api.Errno
		s   string
	}{
		// 1 and 2
		{api.ErrNone, "const a = a; var v §x"}, {api.ErrCycle, "§const a = a; const b = \"x\" + 1"}, {api.ErrCycle, "const z = 1 + \"\"; §const a = b; const b = a"}, {api.ErrCycle, "§var a = f(); func f() int { return a }"},
		// constants
		{api.ErrType, "const a §[]int = 1"}, {api.ErrType, "const a §T = x; type T struct{}"}, {api.ErrType, "const a §any = 1"}, {api.ErrType, "const a §*int = nil"}, {api.ErrNone, "const a = §x"}, {api.ErrNone, "const a int = 1 + §x"}, {api.ErrType, "const a = §b; var b = 1"}, {api.ErrType, "const a = §nil"}, {api.ErrType, "const a = §int"}, {api.ErrType, "const a = §f; func f() {}"}, {api.ErrType, "const a = §f(); func f() {}"}, {api.ErrType, "const a int = §f(); func f() int { return 1 }"}, {api.ErrOver, "const a int8 = §200"}, {api.ErrOver, "const a int = §1.5"}, {api.ErrType, "const a int = §\"x\""}, {api.ErrType, "const a int = §b; const b int8 = 1"}, {api.ErrZero, "const a = 1 + (§1 / 0)"}, {api.ErrType, "const a int8 = §\"\" + 1"}, {api.ErrMany, "const a = §" + long + " + " + long},
		// variables
		{api.ErrType, "var a int = §\"x\""}, {api.ErrOver, "var a int8 = §200"}, {api.ErrType, "var a = §nil"}, {api.ErrType, "var a = §int"}, {api.ErrType, "var a = §f(); func f() {}"}, {api.ErrType, "var a = §f; func f[A any]() {}"}, {api.ErrOver, "var a = §1 << 63"}, {api.ErrOver, "var a = §'a' << 40 * 'b'"}, {api.ErrNone, "var a int = §x"}, {api.ErrType, "var a §comparable = x"}, {api.ErrType, "var a any = §int"}, {api.ErrNone, "type T int; var a = §T(1).m()"},
		// in order
		{api.ErrType, "var a = b; var b = §nil; var c = \"\" + 1"}, {api.ErrType, "var a = §nil; var b = nil"}, {api.ErrOver, "var a = b; const b int8 = §1000; func f() int {}"},
	} {
		checkWrong(t, c.why, c.s)
	}
	checkWrong(t, api.ErrType, "p: import \"q\"; var a = nil", "q: var b = §nil")
	checkWrong(t, api.ErrType, "var a = 1 || var b = §nil")
}

func TestP19_1Functions(t *testing.T) {
	for _, c := range []struct {
		why api.Errno
		s   string
	}{
		{api.ErrType, "func f() §{ return 1 }"}, {api.ErrType, "func f() int §{}"}, {api.ErrType, "func f() int §{ return }"}, {api.ErrType, "func f() §{ return x }"}, {api.ErrNone, "func f() int { return §x }"}, {api.ErrType, "func f() int { return §\"\" }"}, {api.ErrOver, "func f() int8 { return §200 }"}, {api.ErrType, "func f(a string) int { return §a }"}, {api.ErrType, "func f(_ int) int { return §_ }"}, {api.ErrType, "func f[A any](a A) int { return §a }"}, {api.ErrType, "func f[A any, B any](a A) B { return §a }"}, {api.ErrNone, "func f[A interface{ m() int }](a A) int { return §a.n() }"}, {api.ErrType, "func f[A any](a A) bool { return §a == a }"},
		{api.ErrTwice, "type T int; func §(t T) m(t int) {}"}, {api.ErrTwice, "type T int; func §(t *T) m(a int, t string) int {}"}, {api.ErrType, "type T int; func (t T) m() §{ return t }"}, {api.ErrType, "type T int; func (t T) m() int { return §t }"}, {api.ErrType, "type T int; func (t *T) m() T { return §t }"}, {api.ErrType, "type T int; func (_ T) m() T { return §_ }"}, {api.ErrType, "type T[A any] struct{ a A }; func (t T[B]) m() int { return §t.a }"}, {api.ErrNone, "type T int; func (t T) m() T { return §m }"},
		{api.ErrType, "func f() int { return 1 }; func g() string { return §f() }; func h() int { return x }"}, {api.ErrType, "type T int; func (t T) m() int { return §t }; func f() int { return x }"},
		// The receiver's type is asked of: its last type param of that name.
		{api.ErrType, "type T[A comparable, B any] int; func (t §T[_, _]) m() {}"}, {api.ErrType, "type T[A comparable, B any] int; func (_ §T[_, _]) m() {}"}, {api.ErrType, "type T[A comparable, B any] int; func (t *§T[_, _]) m(t int) {}"},
	} {
		checkWrong(t, c.why, c.s)
	}
	for _, s := range []string{
		"func f() {}; func g() { return }; func h(a int) int { return a + 1 }; func k(a int, _ string, b any) any { return b }",
		"func f[A any](a A) A { return a }; func g[A interface{ m() int }](a A) int { return a.m() }; func h[A comparable](a A, b A) bool { return a == b }; func k[A any](a []A, i int) A { return a[i] }",
		"type T struct{ x int }; func (t T) m() int { return t.x }; func (t *T) n(a int) *T { return t }; func (_ T) k(t int) int { return t }; func (_ T) l(_ int, _ string) {}",
		"type T[A any, B comparable] struct{ a A; b B }; func (t T[X, Y]) m() X { return t.a }; func (t *T[A, B]) n(b B) bool { return t.b == b }; func (t T[_, Y]) k() Y { return t.b }",
		"type T[A any] int; func (t T[_]) m() {}; func (_ *T[X]) n(a X) X { return a }",
		"type T int; func (T T) m() int { return int(T) }; func f(int string) string { return int }",
		"func f[a any](a int) int { return a }",
		"var v = f(1); func f(a int) int { return a }; func g() int { return v }",
		"func even(n int) bool { return n == 0||odd(n - 1) }; func odd(n int) bool { return n != 0 && even(n - 1) }",
		"func f(a int, b int, c int, d int, e int, g int, h int, i int, j int, k int, l int, m int, n int, o int, p2 int) int { return a }",
	} {
		world(t, s)
	}
}

func TestP19_2(t *testing.T) {
	fresh := func() api.World {
		return world(t, "const a = 1; var b = a; func f[A any](x []A) A { return x[0] }; type T[B any] struct{ x B }; func (t T[X]) m() X { return t.x }")
	}
	for i, change := range []func(w *api.World){
		func(w *api.World) { w.Src = nil },
		func(w *api.World) { w.Src[0].Files[0] = "package p;" },
		func(w *api.World) { w.Src[0].Files[0] += "; var z = nil" },
		func(w *api.World) { w.Prog.Paths = nil },
		func(w *api.World) { w.Prog.Decls = w.Prog.Decls[:1]; w.Objs = w.Objs[:1] },
		func(w *api.World) { w.Prog.Files[0].Nodes[0].At++ },
		func(w *api.World) {
			w.Unit.Types = append(w.Unit.Types, api.Type{Kind: api.KArray, N: 77, Kids: []int{2}})
		},
		func(w *api.World) { w.Unit.Named = nil },
		func(w *api.World) { w.Objs[0].Type = 2 },
		func(w *api.World) { w.Objs[0].Val.R.Num = nat2 },
		func(w *api.World) { w.Objs[1].Val = w.Objs[0].Val },
		func(w *api.World) { w.Objs[2].Bounds = nil },
		func(w *api.World) { w.Objs = w.Objs[:4] },
	} {
		w := fresh()
		if !Whole(w) {
			t.Fatal("fresh")
		}
		if change(&w); Whole(w) {
			t.Error(i)
		}
	}
	if Whole(api.World{}) {
		t.Error("none")
	}
	// What decl.Resolve tells is not yet checked.
	s, _ := sources("const a = 1")
	if w, _ := decl.Resolve(s); Whole(w) || !decl.Right(w) {
		t.Error("resolved")
	}
	s, _ = sources("type T int")
	if w, _ := decl.Resolve(s); !Whole(w) {
		t.Error("without values")
	}
}

var nat2 = api.Nat{2}

func TestP19_3(t *testing.T) {
	texts := []string{"const a = b + 1", "const b int8 = 3", "var c = f(a)", "func f(x int8) string { return \"x\" }", "var d T", "type T struct{ x []T }", "func (t *T) m(i int) T { return t.x[i] }", "const e = 'x' * 2.0", "var g = d.m(2).x", "type F float32", "const h F = 0.1", "var k = 1.5 == h", "const l = 1 == 1", "var n = l"}
	names := strings.Fields("p.a p.b p.c p.f p.d p.T p.m p.e p.g p.h p.k p.l p.n")
	first := world(t, strings.Join(texts, ";"))
	for i := range texts {
		turned := append(slices.Clone(texts[i:]), texts[:i]...)
		if i%2 == 1 {
			slices.Reverse(turned)
		}
		w := world(t, strings.Join(turned[:5], ";")+" || "+strings.Join(turned[5:9], ";")+" || "+strings.Join(turned[9:], ";"))
		for _, n := range names {
			if got, want := show(w, n), show(first, n); got != want {
				t.Error(i, n, got, want)
			}
		}
		for k, o := range w.Objs {
			switch w.Prog.Decls[k].Kind {
			case api.DConst:
				_, form, e := unit.Under(w.Unit, o.Type)
				if v, e1 := konst.Fits(o.Val, form); e != api.OK || e1 != api.OK || !konst.Like(v, o.Val) {
					t.Error(w.Prog.Decls[k], o)
				}
			case api.DVar:
				if o.Type < 0 || o.Type >= api.UBool && o.Type <= api.UNil {
					t.Error(w.Prog.Decls[k], o)
				}
			}
		}
	}
	if got := fmt.Sprint(first.Objs[0].Val.R.Num, first.Objs[0].Type); got != "[4] 3" {
		t.Error(got)
	}
}

package decl

import (
	"fmt"
	"slices"
	"strings"
	"testing"

	"indenture/api"
	"indenture/unit"
)

// many writes a text for each number below n.
func many(n int, format string) string {
	s := ""
	for i := range n {
		s += fmt.Sprintf(format, i)
	}
	return s
}

func TestP17_2First(t *testing.T) {
	// What scope.Collect tells, all of it.
	l, _ := sources("var a int; var a int; func (t T) m() {}; type U V")
	w, bad := Resolve(l)
	if len(bad) != 2 || bad[0].Why != api.ErrTwice || bad[1].Why != api.ErrNone || !empty(w) {
		t.Error(showBad(bad))
	}
	if w, bad := Resolve(nil); len(bad) != 1 || bad[0] != (api.Bad{Why: api.ErrArg}) || !empty(w) {
		t.Error(showBad(bad))
	}
	for _, c := range []struct {
		why api.Errno
		s   string
	}{
		{api.ErrTwice, "type T x; type U§[A any, B any, A any] int"}, {api.ErrMany, "type T x; §type U[A any, " + many(16, "B%d any, ") + "] int"}, {api.ErrTwice, "type U§[A any, A any, " + many(16, "B%d any, ") + "] int"},
		{api.ErrMany, many(60, "type T%d T;") + "§type U int; type V int"},
		{api.ErrMany, "type T T; " + many(59, "type T%d T;") + "§type U int; type V[A any, A any] int"},
		{api.ErrTwice, many(60, "type T%d T;") + "type U§[A any, A any] int"},
	} {
		checkWrong(t, c.why, c.s)
	}
	resolve(t, many(60, "type T%d int;"))
	resolve(t, "type U[A any, "+many(15, "B%d any, ")+"] int")
	resolve(t, "type U[_ any, _ any] int")
}

func TestP17_2Before(t *testing.T) {
	for _, c := range []struct {
		why api.Errno
		s   string
	}{
		{api.ErrCycle, "type A int; §type T T"}, {api.ErrNone, "type T U; type U T; type V §x"}, {api.ErrCycle, "§type T (U); type U (((T)))"}, {api.ErrCycle, "§type T U[int]; type U[A any] T"}, {api.ErrCycle, "§type T interface{ U }; type U interface{ []T | int }"}, {api.ErrCycle, "§type T[P ~[]T[int]] int"}, {api.ErrCycle, "§type T interface{ interface{ int | struct{ a func(b T) } } }"}, {api.ErrCycle, "type W int; §type T U; type U T"},
		{api.ErrNone, "type T §x; type U V; type V U"},
		{api.ErrType, "type T[T any] §T"}, {api.ErrType, "type T[A any, B any] §(B)"},
		{api.ErrType, "type T[T any, U interface{ §T }] int"}, {api.ErrType, "type U int; type T[U any] §U"},
		{api.ErrNone, "type T interface{ §q.T }"},
	} {
		checkWrong(t, c.why, c.s)
	}
	// What is before is told first, whatever the order.
	checkWrong(t, api.ErrNone, "type T U; type V §y; type U x")
	checkWrong(t, api.ErrNone, "type T U; type V U; type U §x; type W y")
	for s, want := range map[string]string{
		"type T interface{ ~[]U }; type U V; type V int":                "interface{~[]p.U}",
		"type T struct{ p *T; s []T; m map[string]T; f func(t T) T }":   "struct{p *p.T; s []p.T; m map[string]p.T; f func(p.T) p.T}",
		"type T interface{ m(t T) }":                                    "interface{m(p.T)}",
		"type T interface{ U; m(t T) }; type U interface{ n(t T) }":     "interface{m(p.T); n(p.T)}",
		"type T interface{ U | V }; type U []V; type V int":             "interface{p.V | p.U}",
		"type T[A any] struct{ p *U }; type U struct{ t T[int] }":       "[interface{}] struct{p *p.U}",
		"type T U; type U interface{ m() }":                             "interface{m()}",
		"type T U[int]; type U[A any] interface{ m(a A) }":              "interface{m(int)}",
		"type T interface{ U[int] }; type U[A any] interface{ m(a A) }": "interface{m(int)}",
	} {
		if got := show(resolve(t, s), "p.T"); got != want {
			t.Error(s, got)
		}
	}
	// Of another package, public or not.
	checkWrong(t, api.ErrNone, "p: import \"q\"; type T interface{ §q.t }", "q: type t int")
	w := resolve(t, "p: import \"q\"; type T q.U", "q: type U V; type V []int")
	if got := show(w, "p.T"); got != "[]int" {
		t.Error(got)
	}
}

func TestP17_2Methods(t *testing.T) {
	for _, c := range []struct {
		why api.Errno
		s   string
	}{
		{api.ErrTwice, "type T[A any, B any] int; func §(t T[X, X]) m() {}"}, {api.ErrTwice, "type T int; func §(t T[X, X]) m() {}"}, {api.ErrType, "type T int; func §(t T[X]) m() {}"}, {api.ErrType, "type T[A any] int; func §(t *T) m() {}"}, {api.ErrType, "type T[A any, B any] int; func §(t *T[X]) m(a y) {}"},
		{api.ErrNone, "type T int; func (t T) m(a §x) {}"}, {api.ErrNone, "type T[A any] int; func (t T[X]) m(a §A) {}"}, {api.ErrTwice, "type T *int; func (t T) m§(a int, a int) {}"}, {api.ErrType, "type T *int; func §(t T) m() {}"}, {api.ErrType, "type T interface{}; func §(t *T) m() {}"}, {api.ErrType, "type T U; type U *int; func §(t T) _() {}"},
		{api.ErrTwice, "type T struct{ m int }; §func (t T) m() {}"}, {api.ErrTwice, "type T struct{ *m }; type m int; §func (t *T) m() {}"}, {api.ErrTwice, "type T U; type U struct{ m int }; §func (t *T) m() {}"},
		{api.ErrMany, "type T int; " + many(16, "func (t T) m%d() {};") + "§func (t T) n() {}"},
		{api.ErrTwice, "type T struct{ n int }; " + many(16, "func (t T) m%d() {};") + "§func (t T) n() {}"},
		// Methods are told ahead of types that have themselves.
		{api.ErrNone, "type T struct{ t T }; type U int; func (u U) m(a §x) {}"},
	} {
		checkWrong(t, c.why, c.s)
	}
	resolve(t, "type T int; "+many(16, "func (t T) m%d() {};")+"func (t T) _() {}")
	resolve(t, "type T [2]struct{ m int }; func (t T) m() {}")
}

func TestP17_2Itself(t *testing.T) {
	for _, s := range []string{
		"type A struct{ t T }; §type T struct{ a int; t T }",
		"§type T struct{ u [2]U }; type U struct{ t T }",
		"§type T [0]T",
		"§type T struct{ a struct{ b [1]struct{ T } } }",
		"§type T struct{ g G[int] }; type G[A any] struct{ t T }",
		"§type T[A any] struct{ t [1]T[[]A] }",
		"type A struct{ t *T }; §type T struct{ T }",
		"§type T struct{ u U }; type U V; type V struct{ t T }",
	} {
		checkWrong(t, api.ErrCycle, s)
	}
	for _, s := range []string{
		"type T struct{ t *T; s []T; m map[int]T; f func(t T); i interface{ m(t T) } }",
		"type G[A any] struct{ a A }; type T struct{ g *G[T] }",
		"type G[A any] struct{ a *A }; type T struct{ g G[T] }",
		"type G[A any] struct{ a A }; type T struct{ g G[T] }",
		"type _ struct{ t T }; type T int",
	} {
		resolve(t, s)
	}
	// It is told ahead of what is looked at closely.
	checkWrong(t, api.ErrCycle, "type M map[[]int]int; §type T [1]T")
}

func TestP17_2Closely(t *testing.T) {
	for _, c := range []struct {
		why api.Errno
		s   string
	}{
		// maps
		{api.ErrType, "var v §map[[]int]int"}, {api.ErrNone, "var v map[[]int]§x"}, {api.ErrType, "type T struct{ a U }; type U func(); var v []§map[T]int"}, {api.ErrType, "func f[A any](m §map[A]int) {}"}, {api.ErrType, "func f[A any]() §map[A]int {}"}, {api.ErrType, "type T[A interface{ []int }] struct{ m §map[A]int }"},
		// bounds
		{api.ErrType, "type T[A ~int] int; var v §T[string]"}, {api.ErrType, "type T[A comparable] int; var v §T[[]int]"}, {api.ErrType, "type T[A any, B ~[]A] int; var v §T[int, []string]"}, {api.ErrType, "type T[A interface{ m() }] int; type U int; func (u *U) m() {}; var v §T[U]"}, {api.ErrType, "type T[A ~int] int; func f[A any](a §T[A]) {}"}, {api.ErrType, "type T[A ~int] int; type U[A ~string] struct{ a §T[A] }"}, {api.ErrType, "type T[A ~int] int; type U[A any] int; func (u U[X]) m() §T[X] {}"},
		{api.ErrType, "type T[A ~int] int; func f[A §T[string]]() {}"}, {api.ErrType, "type T[A ~int] int; type U §T[string]"},
		{api.ErrType, "type T[A comparable] int; func f[A any, B ~[]§T[A], C any]() {}"},
		{api.ErrType, "type T[A comparable] int; func f[A ~[]§T[B], B comparable]() {}"},
		// embedded fields
		{api.ErrType, "type P *int; type T struct{ a int; §P; b int }"}, {api.ErrType, "type P *int; type T struct{ §*P }"}, {api.ErrType, "type I interface{}; type T struct{ §*I }"}, {api.ErrType, "type T[A any] struct{ §A }"}, {api.ErrType, "type T[A any] struct{ §*A }"}, {api.ErrType, "var v struct{ §*any }"}, {api.ErrType, "type P[A any] *A; type T struct{ §*P[int] }"}, {api.ErrType, "type P *int; type T struct{ a int; §P; b comparable }"},
		// constraints
		{api.ErrType, "var v §comparable"}, {api.ErrType, "type C interface{ int }; var v []§C"}, {api.ErrType, "var v struct{ a §comparable }"}, {api.ErrType, "var v §interface{ ~int }"}, {api.ErrType, "type T []§comparable"}, {api.ErrType, "type T (§comparable)"}, {api.ErrType, "type T interface{ (§comparable) }"}, {api.ErrType, "func f(a §comparable) {}"}, {api.ErrType, "func f() §comparable {}"}, {api.ErrType, "func f[A ~[]§comparable]() {}"}, {api.ErrType, "type T[A any] int; var v T[§comparable]"}, {api.ErrType, "type C[A any] interface{ []A }; var v §C[int]"}, {api.ErrType, "type T struct{ §comparable }"}, {api.ErrType, "type T map[string]§comparable"}, {api.ErrType, "type T interface{ m(a §comparable) }"}, {api.ErrType, "const c §comparable = 1"}, {api.ErrType, "type T int; func (t T) m(a §comparable) {}"},
		// functions' type params
		{api.ErrTwice, "func f§[A any, A any]() {}"}, {api.ErrMany, "§func f[" + many(17, "A%d any, ") + "]() {}"}, {api.ErrTwice, "func f§[A any, A any, " + many(17, "A%d any, ") + "]() {}"}, {api.ErrNone, "func f[A §x]() {}"}, {api.ErrNone, "func f[A any](b §B) {}"},
		// in order
		{api.ErrType, "type T (§comparable); var v x"}, {api.ErrNone, "var v §x; type T (comparable)"},
	} {
		checkWrong(t, c.why, c.s)
	}
	for _, s := range []string{
		"type T comparable; type U interface{ T; ~int }; type V[A any] interface{ ~[]A }; type W V[int]",
		"func f[A comparable, B ~[]A | ~map[A]int, C interface{ *A }](m map[A]B) map[A]C {}",
		"type T[A comparable] struct{ m map[A]int }; func f[X comparable](t T[X]) {}",
		"type T[A any, B ~[]A] int; var v T[int, []int]; type S []string; var w T[string, S]",
		"type T[A interface{ m() }] int; type U int; func (u *U) m() {}; var v T[*U]; var w T[I]; type I interface{ m(); n() }",
		"type T[A any] struct{ *U; I; *V2[A] }; type U int; type I interface{}; type V2[A any] []A",
		"type T[A ~int] int; type U[A ~int] struct{ a T[A] }; func (u U[X]) m(t T[X]) {}",
		"type T[A comparable] int; func f[A comparable, B ~[]T[A]]() {}",
	} {
		resolve(t, s)
	}
	// Constraints of what has no name are looked at with params that are bound by nothing.
	checkWrong(t, api.ErrType, "type _[A comparable, B ~[]§map[A]int] struct{ m map[A]B }")
	resolve(t, "type _[A comparable] struct{ m map[A]int }")
}

func TestP17_1Right(t *testing.T) {
	fresh := func() api.World {
		return resolve(t, "type T[A any] int; func (t T[A]) m() {}; const c = 1; var v *T[int] || func f[B comparable]() {}")
	}
	if !Right(fresh()) || Right(api.World{}) {
		t.Error("fresh")
	}
	for i, change := range []func(w *api.World){
		func(w *api.World) { w.Src = nil },
		func(w *api.World) { w.Src[0].Files[0] += "x" },
		func(w *api.World) { w.Src[0].Files[0] += " " + "\nvar z int" },
		func(w *api.World) { w.Src[0].Path = "q" },
		func(w *api.World) { w.Prog.Paths = nil },
		func(w *api.World) { w.Prog.Files[0].Pkg = "q" },
		func(w *api.World) { w.Prog.Files[1].No = 0 },
		func(w *api.World) { w.Prog.Files[0].Imports = []string{"p"} },
		func(w *api.World) { w.Prog.Files[0].Nodes[0].At++ },
		func(w *api.World) { w.Prog.Files[0].Nodes[0].Text = "z" },
		func(w *api.World) { w.Prog.Files = w.Prog.Files[:1] },
		func(w *api.World) { w.Prog.Decls = w.Prog.Decls[1:]; w.Objs = w.Objs[1:] },
		func(w *api.World) { w.Prog.Decls[0].Name = "U" },
		func(w *api.World) { w.Unit.Types = w.Unit.Types[:5] },
		func(w *api.World) { w.Unit.Named = nil },
		func(w *api.World) { w.Objs = w.Objs[1:] },
		func(w *api.World) { w.Objs = append(w.Objs, api.Obj{}) },
		func(w *api.World) { w.Objs[0].Type = -2 },
		func(w *api.World) { w.Objs[0].Type = len(w.Unit.Types) },
		func(w *api.World) { w.Objs[0].Bounds = []int{2} },
		func(w *api.World) { w.Objs[0].Bounds = []int{-1} },
		func(w *api.World) { w.Objs[0].Bounds = []int{400} },
		func(w *api.World) { w.Objs[0].Bounds = slices.Repeat([]int{api.YAny}, 17) },
		func(w *api.World) { w.Objs[0].Val.S = "x" },
		func(w *api.World) { w.Objs[0].Val.Kind = api.VNum },
		func(w *api.World) { w.Objs[0].Val.Kind = 9 },
	} {
		w := fresh()
		change(&w)
		if Right(w) {
			t.Error(i)
		}
		if v, at, bad := Type(w, api.Ctx{Pkg: "p"}, 0); !empty(v) || at != 0 || showBad(bad) != ".0@0:1" {
			t.Error(i, at, showBad(bad))
		}
	}
	for i, change := range []func(w *api.World){
		func(w *api.World) { w.Objs[0].Type = -1 },
		func(w *api.World) { w.Objs[2].Type = 7 },
		func(w *api.World) { w.Objs[2].Bounds = slices.Repeat([]int{api.YAny}, 16) },
		func(w *api.World) { w.Objs[2].Val = api.Val{Kind: api.VString, S: "x"} },
		func(w *api.World) { w.Objs[2].Val = api.Val{Kind: api.VBool} },
		func(w *api.World) {
			w.Unit = api.Unit{Types: w.Unit.Types[:api.YBasics]}
			w.Objs = make([]api.Obj, len(w.Objs))
		},
	} {
		w := fresh()
		if change(&w); !Right(w) {
			t.Error(i)
		}
	}
}

// typeNode is the place of a variable's type's node, and where it stands.
func typeNode(w api.World, name string) (api.Ctx, int) {
	for _, d := range w.Prog.Decls {
		if d.Name == name {
			return api.Ctx{Pkg: d.Pkg, File: d.File}, w.Prog.Files[d.File].Nodes[d.Node].Kids[0]
		}
	}
	return api.Ctx{}, 0
}

func TestP17_1Type(t *testing.T) {
	w := resolve(t, "q: type T int; var a []map[string]T || import \"p\"; var b *p.T; type G[A comparable] []A; type P *int; type C interface{ int }", "p: type T bool")
	for name, want := range map[string]string{"a": "[]map[string]q.T", "b": "*p.T"} {
		c, i := typeNode(w, name)
		v, at, bad := Type(w, c, i)
		if text(v, at) != want || bad != nil || !unit.Like(v.Unit, w.Unit) || !Right(v) {
			t.Error(name, text(v, at), showBad(bad))
		}
	}
	// Where it stands tells what names are.
	c, i := typeNode(w, "a")
	c.Params, c.Bounds = []string{"T", "X", "T"}, []int{api.YAny, api.YComp, api.YAny}
	v, at, bad := Type(w, c, i)
	if text(v, at) != "[]map[string]#2" || bad != nil || len(v.Unit.Types) != len(w.Unit.Types)+3 {
		t.Error(text(v, at), showBad(bad))
	}
	c.Params = []string{"X", "string", "Y"}
	if v, at, bad := Type(w, c, i); text(v, at) != "[]map[#1]q.T" || bad != nil {
		t.Error(text(v, at), showBad(bad))
	}
	c.Bounds[1] = api.YAny
	if v, at, bad := Type(w, c, i); !empty(v) || at != 0 || len(bad) != 1 || bad[0].Why != api.ErrType || bad[0].Pkg != "q" || bad[0].At != len("package q;type T int; var a []") {
		t.Error(at, showBad(bad))
	}
	// A package's name may be one of a type param.
	c, i = typeNode(w, "b")
	c.Params, c.Bounds = []string{"p"}, []int{api.YAny}
	if _, _, bad := Type(w, c, i); len(bad) != 1 || bad[0].Why != api.ErrNone {
		t.Error(showBad(bad))
	}
}

func TestP17_1TypeWrong(t *testing.T) {
	w := resolve(t, "var a []T; type T int; var b = -1 + x(2); type G[A any] int || func x(y int) int { return y }")
	c, i := typeNode(w, "a")
	bad := func(c api.Ctx, i int) {
		t.Helper()
		if v, at, bad := Type(w, c, i); !empty(v) || at != 0 || showBad(bad) != ".0@0:1" {
			t.Error(c, i, showBad(bad))
		}
	}
	for _, f := range []int{-1, 2, 1 << 40} {
		bad(api.Ctx{Pkg: "p", File: f}, i)
	}
	for _, k := range []int{-1, len(w.Prog.Files[0].Nodes), 1 << 40} {
		bad(c, k)
	}
	for _, b := range [][]int{{}, {api.YAny, api.YAny}, {2}, {-1}, {len(w.Unit.Types)}} {
		c.Params, c.Bounds = []string{"A"}, b
		bad(c, i)
	}
	c.Params, c.Bounds = slices.Repeat([]string{"A"}, 17), slices.Repeat([]int{api.YAny}, 17)
	bad(c, i)
	c.Params, c.Bounds = c.Params[:16], c.Bounds[:16]
	if _, _, bad := Type(w, c, i); bad != nil {
		t.Error(showBad(bad))
	}
	// Nodes that tell no type.
	c, _ = typeNode(w, "a")
	for k, n := range w.Prog.Files[0].Nodes {
		_, _, bad := Type(w, c, k)
		switch n.Kind {
		case api.NName:
			if want := map[string]bool{"T": true, "int": true, "any": true}[n.Text]; want != (bad == nil) {
				t.Error(n, showBad(bad))
			}
		case api.NSlice:
			if bad != nil {
				t.Error(n, showBad(bad))
			}
		default:
			if len(bad) != 1 || bad[0].Why != api.ErrType || bad[0].At != n.At {
				t.Error(n, showBad(bad))
			}
		}
	}
}

// TestTypeExpr: of expressions' nodes, too, what is wrong is told.
func TestTypeExpr(t *testing.T) {
	w := resolve(t, "p: import \"q\"; var a int; var b = a.x.y + f()[a] + q.T[a](1) + (-a)", "q: type T[A any] int")
	at := 0
	for i, f := range w.Prog.Files {
		if f.Pkg == "p" {
			at = i
		}
	}
	var got []string
	for k, n := range w.Prog.Files[at].Nodes {
		if _, _, bad := Type(w, api.Ctx{Pkg: "p", File: at}, k); n.Kind == api.NSel || n.Kind == api.NIndex || n.Kind == api.NUnary {
			got = append(got, fmt.Sprintf("%d%s+%d:%d", n.Kind, n.Text, bad[0].At-n.At, bad[0].Why))
		}
	}
	if want := strings.Fields("6x+0:8 6y+0:11 8+0:11 6T+0:11 8+4:11 9-+0:11"); !slices.Equal(got, want) {
		t.Error(got)
	}
}

// TestTypeMany: what unit.Put and unit.Under tell is told at the node.
func TestTypeMany(t *testing.T) {
	w := resolve(t, "type G[A any] struct{ a []A }; type T int; var a *[]G[T]")
	c, i := typeNode(w, "a")
	full := func(n int) api.World {
		v := w
		v.Unit.Types = slices.Clone(w.Unit.Types[:len(w.Unit.Types)])
		for k := 0; len(v.Unit.Types) < n; k++ {
			v.Unit.Types = append(v.Unit.Types, api.Type{Kind: api.KArray, N: 1000 + k, Kids: []int{2}})
		}
		return v
	}
	if _, _, bad := Type(full(400), c, i); bad != nil {
		t.Error(showBad(bad))
	}
	c.Params, c.Bounds = []string{"T"}, []int{api.YAny}
	// #0 is there; G[#0], too; so is what that is.
	at := strings.Index(w.Src[0].Files[0], "*[]G")
	for n, want := range map[int]int{400: at + 1, 399: at, 398: -1} {
		_, _, bad := Type(full(n), c, i)
		if want < 0 && bad != nil || want >= 0 && (len(bad) != 1 || bad[0].Why != api.ErrMany || bad[0].At != want) {
			t.Error(n, at, showBad(bad))
		}
	}
}

func TestP17_3(t *testing.T) {
	texts := []string{"type T[A comparable] struct{ m map[A]U; *U }", "type U interface2", "type interface2 struct{ x []V }", "type V interface{ m(t T[string]) }", "func (u U) m(t T[string]) {}", "func (u *U) a() {}", "func f[X ~[]V](x X) U { return x }", "var v T[int]", "type C interface{ ~[]V | W }", "type W string"}
	names := []string{"p.T", "p.U", "p.interface2", "p.V", "p.f", "p.v", "p.C", "p.W"}
	first := resolve(t, strings.Join(texts, ";"))
	want := map[string]string{}
	for _, n := range names {
		want[n] = sorted(show(first, n))
	}
	for i := range texts {
		turned := append(slices.Clone(texts[i:]), texts[:i]...)
		if i%2 == 1 {
			slices.Reverse(turned)
		}
		w := resolve(t, strings.Join(turned[:4], ";")+" || "+strings.Join(turned[4:], ";"))
		for _, n := range names {
			if got := sorted(show(w, n)); got != want[n] {
				t.Error(turned, n, got, want[n])
			}
		}
		for k, o := range w.Objs {
			if o.Type < -1 || o.Type >= len(w.Unit.Types) {
				t.Error(k, o)
			}
			if d := w.Prog.Decls[k]; d.Kind == api.DType {
				n, _ := unit.Find(w.Unit, d.Pkg+"."+d.Name)
				if !slices.Equal(o.Bounds, w.Unit.Named[n].Bounds) {
					t.Error(d, o.Bounds)
				}
			}
		}
	}
}

// sorted are a text's words in order: terms stand as their types were put in.
func sorted(s string) string {
	l := strings.FieldsFunc(s, func(r rune) bool { return strings.ContainsRune(" {}|", r) })
	slices.Sort(l)
	return strings.Join(l, " ")
}

package expr

import (
	"fmt"
	"slices"
	"strings"
	"testing"

	"indenture/api"
	"indenture/decl"
	"indenture/konst"
	"indenture/nat"
	"indenture/rat"
	"indenture/typ"
	"indenture/unit"
)

func num(n int64) api.Val {
	r, _ := rat.Make(n < 0, nat.Of(uint64(max(n, -n))), nat.Of(1))
	return api.Val{Kind: api.VNum, R: r}
}

const header = `package p;import "q";
type I int; type F float64; type S string; type B bool; type PI *int; type M map[string]int; type L []int; type A [3]int; type Fn func(a int) string;
type T struct{ X int; y string; *E; N map[T2]string }; type T2 struct{ a int }; type E struct{ Z bool; w int }; func (e *E) P() int { return 1 }; func (e E) V() {};
func (t T) Get() int { return 1 }; func (t *T) Set(a int) {}; type Face interface{ Get() int }; type Any interface{}; type Num interface{ ~int | ~string }; type Two interface{ a(); b() }; type NC struct { f func() };
type G[X comparable] struct{ g X }; func (g G[X]) Me() X { return g.g };
const c = 1; const i8 = 1; const fs = 1; const ss = "s"; const big = 1; const cb = 1; const bad = 1; const cr = 1; const wrong int8 = 1; const ci I = 1;
var v int; var i I; var f F; var f64 float64; var s string; var b bool; var u8 uint8; var t T; var pt *T; var l L; var a A; var m M; var fn Fn; var face Face; var any1 any; var pi *int; var pI PI; var g G[int]; var e E; var nc NC; var ls []int; var la [3]int; var lf []func(); var two Two; var ar2 [2]T; var np int = 1; var un = 1; var pn *I; var ms map[S]I; var qh q.H; var pqh *q.H; var qi q.I;
func fun(a int, b string) T { return t }; func none() {}; func gen[X any, Y ~[]X](x X) Y { return x }; func gen1[X comparable]() {}; type UT[X any] int; func fac(x Face) {}; func anyf(x any) {};
func tp[P any, Q Num, R Two, W comparable](p P, q Q, r R, w W) {}
var expr = `

const second = `package q; type H struct{ A int; b string }; func (h H) M() {}; func (h H) n() {}; type I interface{ O(); p() }; const C = 1; var V string; func Fq() int { return 1 }; type low int; const low2 = 1; type GQ[X any] []X; type lowG[X any] []X; var Un = 1`

// world is that of the header, with an expression, and where that stands; params and names are told.
func world(t *testing.T, text string, params bool) (api.World, api.Env, int) {
	t.Helper()
	w, bad := decl.Resolve([]api.Source{{Path: "p", Files: []string{header + text}}, {Path: "q", Files: []string{second}}})
	if bad != nil {
		t.Fatal(text, bad)
	}
	set := map[string]api.Obj{
		"c": {Type: api.UInt, Val: num(7)}, "i8": {Type: api.YInt8, Val: num(100)}, "fs": {Type: api.UFloat, Val: num(3)}, "ss": {Type: api.YString, Val: api.Val{Kind: api.VString, S: "hey"}}, "big": {Type: api.UInt, Val: big(300)}, "cb": {Type: api.UBool, Val: api.Val{Kind: api.VBool, B: true}}, "cr": {Type: api.URune, Val: num(65)}, "bad": {Type: -1}, "wrong": {Type: api.YInt8, Val: num(300)}, "np": {Type: -1}, "un": {Type: api.UInt}, "C": {Type: api.YInt, Val: num(42)}, "Un": {Type: -1}, "low2": {Type: api.UInt, Val: num(1)},
	}
	c := api.Ctx{Pkg: "p"}
	node := 0
	for n, d := range w.Prog.Decls {
		o, ok := set[d.Name]
		switch {
		case ok:
			w.Objs[n] = o
		case d.Name == "ci":
			w.Objs[n].Val = num(5)
		case d.Name == "tp" && params:
			c.Params, c.Bounds = []string{"P", "Q", "R", "W"}, w.Objs[n].Bounds
		case d.Name == "expr":
			c.File, node = d.File, w.Prog.Files[d.File].Nodes[d.Node].Kids[1]
		}
	}
	return w, api.Env{Ctx: c}, node
}

func big(n int) api.Val {
	x, _ := nat.Shift(nat.Of(1), n)
	r, _ := rat.Make(false, x, nat.Of(1))
	return api.Val{Kind: api.VNum, R: r}
}

var modes = []string{"none", "val", "var", "const", "type", "gen", "nil"}

// show writes what an expression is.
func show(w api.World, x api.Oper) string {
	text, _ := typ.Text(w.Unit.Types, x.Type)
	s := modes[x.Mode]
	if x.Mode != api.MNone {
		s += " " + text
	} else if x.Type != 0 {
		s += "not zero"
	}
	if x.Mode == api.MConst {
		v, _ := konst.Text(x.Val)
		s += " " + v
	} else if !konst.Like(x.Val, api.Val{}) {
		s += " not zero"
	}
	for _, b := range x.Bounds {
		text, _ := typ.Text(w.Unit.Types, b)
		s += " & " + text
	}
	return s
}

// check is what an expression is, or where it is wrong (counted from its beginning), and why.
func check(t *testing.T, text string, params bool, names ...string) string {
	t.Helper()
	w, v, i := world(t, text, params)
	for _, n := range names {
		name, of, _ := strings.Cut(n, " ")
		at := slices.IndexFunc(w.Unit.Types, func(x api.Type) bool { return x.Name == of })
		if p := strings.TrimPrefix(of, "#"); p != of {
			at = slices.IndexFunc(w.Unit.Types, func(x api.Type) bool { return x.Kind == api.KParam && fmt.Sprint(x.N) == p })
		}
		v.Names, v.Types = append(v.Names, name), append(v.Types, at)
	}
	u, x, bad := Check(w, v, i)
	if len(bad) > 0 {
		if len(bad) != 1 || u.Src != nil || x.Mode != 0 || bad[0].Pkg != "p" || bad[0].File != 0 {
			t.Error(text, bad, x)
		}
		return fmt.Sprintf("@%d:%d", bad[0].At-len(header), bad[0].Why)
	}
	if !decl.Right(u) {
		t.Error(text, "not right")
	}
	return show(u, x)
}

func TestP18_1Names(t *testing.T) {
	for text, want := range map[string]string{
		"_": "@0:11", "x": "@0:8", "true": "const untyped bool true", "false": "const untyped bool false", "nil": "nil untyped nil", "int": "type int", "any": "type interface{}", "comparable": "@0:11", "byte": "type uint8",
		"T": "type p.T", "G": "@0:11", "Num": "@0:11", "Face": "type p.Face", "c": "const untyped int 7", "i8": "const int8 100", "ss": "const string \"hey\"", "ci": "const p.I 5", "bad": "@0:10", "wrong": "@0:10", "v": "var int", "t": "var p.T", "np": "@0:10", "un": "@0:10", "fun": "val func(int, string) p.T", "none": "val func()", "gen": "gen func(#0) #1 & interface{} & interface{~[]#0}", "P": "@0:8", "q": "@0:8", "Get": "@0:8",
		"1": "const untyped int 1", "0x_10": "const untyped int 16", "1.5": "const untyped float 3/2", "'a'": "const untyped rune 97", "'\\xff'": "const untyped rune 255", "\"a\\n\"": "const untyped string \"a\n\"", "`a`": "const untyped string \"a\"", "08": "@0:5", "1e151": "@0:2", "''": "@0:5", "\"\\z\"": "@0:5", "\"" + strings.Repeat("a", 200) + "\"": "const untyped string \"" + strings.Repeat("a", 200) + "\"", "\"" + strings.Repeat("a", 201) + "\"": "@0:7", strings.Repeat("1", 151): "@0:7",
		"(c)": "const untyped int 7", "((T))": "type p.T", "[]int": "type []int", "[2]T": "type [2]p.T", "[c]T": "@0:11", "map[string]T": "type map[string]p.T", "map[L]T": "@0:11", "func(a int) T": "type func(int) p.T", "struct{ a int }": "type struct{a int}", "interface{ m() }": "type interface{m()}", "interface{ int }": "@0:11", "[]x": "@2:8", "*T": "type *p.T", "*(T)": "type *p.T", "**T": "type **p.T", "*x": "@1:8",
	} {
		if got := check(t, text, false); got != want {
			t.Errorf("%s: %s", text, got)
		}
	}
	for text, want := range map[string]string{"P": "type #0", "Q": "type #1", "c": "const untyped int 7", "[]P": "type []#0", "map[P]int": "@0:11", "map[W]Q": "type map[#3]#1"} {
		if got := check(t, text, true); got != want {
			t.Errorf("%s: %s", text, got)
		}
	}
	for text, want := range map[string]string{"c": "var int", "x": "var p.T", "P": "var string", "true": "var bool", "int": "var int", "x.X": "var int", "T": "var int", "Q": "type #1", "_": "@0:11"} {
		if got := check(t, text, true, "c string", "x int", "c int", "P string", "true bool", "int int", "x p.T", "T int", "q int", "_ int"); got != want {
			t.Errorf("%s: %s", text, got)
		}
	}
	if got := check(t, "q.C", false, "q int"); got != "@0:8" {
		t.Error(got)
	}
}

func TestP18_1Sel(t *testing.T) {
	for text, want := range map[string]string{
		"q.C": "const int 42", "q.V": "var string", "q.Fq": "val func() int", "q.H": "type q.H", "q.I": "type q.I", "q.GQ": "@0:11", "q.low": "@0:8", "q.low2": "@0:8", "q.X": "@0:8", "q.Un": "@0:10", "q.M": "@0:8", "q._": "@0:8", "(q).C": "@1:8", "r.C": "@0:8",
		"t.X": "var int", "t.y": "var string", "pt.X": "var int", "pt.y": "var string", "t.Z": "var bool", "t.w": "var int", "t.E": "var *p.E", "fun(1, s).X": "val int", "fun(1, s).Z": "var bool", "t.nope": "@0:8", "t._": "@0:8", "t.Get": "val func() int", "t.Set": "val func(int)", "pt.Set": "val func(int)", "fun(1, s).Set": "@0:11", "fun(1, s).Get": "val func() int", "fun(1, s).P": "val func() int", "fun(1, s).V": "val func()", "m.Set": "@0:8", "face.Get": "val func() int", "face.Set": "@0:8", "g.Me": "val func() int", "g.g": "var int", "g.Me()": "val int", "nil.X": "@0:11", "1 .X": "@0:11", "c.X": "@0:11", "T.Get": "@0:11", "none().X": "@0:11", "fun.X": "@0:8", "gen.X": "@0:11", "i8.X": "@0:8", "(1 == 2).X": "@0:11", "(v == 2).X": "@0:11",
		"qh.A": "var int", "qh.b": "@0:8", "qh.M": "val func()", "qh.n": "@0:8", "pqh.b": "@0:8", "pqh.A": "var int", "qi.O": "val func()", "qi.p": "@0:8", "q.H.A": "@0:11", "q.V.X": "@0:8", "t.E.Z": "var bool", "x.X": "@0:8", "ar2[0].X": "var int",
	} {
		if got := check(t, text, false); got != want {
			t.Errorf("%s: %s", text, got)
		}
	}
	for text, want := range map[string]string{"x.a": "val func()", "x.c": "@0:8", "y.a": "@0:8", "x._": "@0:8"} {
		if got := check(t, text, true, "x #2", "y #0"); got != want {
			t.Errorf("%s: %s", text, got)
		}
	}
}

func TestP18_1Index(t *testing.T) {
	for text, want := range map[string]string{
		"G[int]": "type p.G[int]", "(G)[int]": "@0:11", "G[L]": "@0:11", "G[int, int]": "@0:11", "q.GQ[int]": "type q.GQ[int]", "q.lowG[int]": "@0:8", "T[int]": "@0:11", "G[x]": "@2:8", "q.H[int]": "@0:11",
		"gen[int, []int]": "val func(int) []int", "gen[int, L]": "val func(int) p.L", "gen[int, []string]": "@0:11", "gen[int]": "@0:11", "gen[int, []int, int]": "@0:11", "gen[x, int]": "@4:8", "gen[1, int]": "@4:11", "gen1[func()]": "@0:11", "(gen1)[int]": "val func()", "gen[int][int]": "@0:11", "fun[int]": "@0:11", "gen1[NC]": "@0:11",
		"s[0]": "val uint8", "s[v]": "val uint8", "s[u8]": "val uint8", "s[i]": "val uint8", "s[f]": "@0:11", "s[s]": "@0:11", "s[1.0]": "val uint8", "s[1.5]": "@0:2", "s[-1]": "@0:2", "s[100]": "val uint8", "s['a']": "val uint8", "s[nil]": "@0:11", "s[T]": "@0:11", "s[ss]": "@0:11", "s[cb]": "@0:11", "s[big]": "@0:2", "s[i8]": "val uint8", "s[0, 1]": "@0:11", "s[x]": "@2:8", "s[fs]": "val uint8", "s[v == 1]": "@0:11",
		"\"abc\"[2]": "val uint8", "\"abc\"[3]": "@0:2", "\"abc\"[v]": "val uint8", "ss[2]": "val uint8", "ss[3]": "@0:2", "\"\"[0]": "@0:2",
		"a[0]": "var int", "a[2]": "var int", "a[3]": "@0:2", "a[v]": "var int", "a[-1]": "@0:2", "la[2]": "var int", "fun(1, s).X[0]": "@0:11", "ar2[1].X": "var int", "A(a)[0]": "val int", "A(a)[3]": "@0:2",
		"l[0]": "var int", "l[9]": "var int", "l[-1]": "@0:2", "l[s]": "@0:11", "L(nil)[v]": "var int", "ls[true]": "@0:11", "lf[0]()": "none", "ls[f]": "@0:11",
		"m[s]": "val int", "m[\"a\"]": "val int", "m[1]": "@0:11", "m[nil]": "@0:11", "ms[s]": "@0:11", "ms[\"x\"]": "val p.I", "ms[S(s)]": "val p.I", "t.N[x]": "@4:8", "m[s, s]": "@0:11",
		"pt[0]": "@0:11", "T[0]": "@2:11", "int[0]": "@0:11", "nil[0]": "@0:11", "none()[0]": "@0:11", "v[0]": "@0:11", "x[y]": "@0:8", "v[y]": "@2:8", "5[0]": "@0:11", "face[0]": "@0:11",
	} {
		if got := check(t, text, false); got != want {
			t.Errorf("%s: %s", text, got)
		}
	}
	for text, want := range map[string]string{"gen1[W]": "val func()", "gen1[P]": "@0:11", "gen[P, []P]": "val func(#0) []#0", "x[0]": "@0:11", "G[W]": "type p.G[#3]", "G[P]": "@0:11", "c[0]": "val uint8", "T[0]": "val uint8"} {
		if got := check(t, text, true, "x #1", "c string", "T string"); got != want {
			t.Errorf("%s: %s", text, got)
		}
	}
}

func TestP18_1Call(t *testing.T) {
	for text, want := range map[string]string{
		"fun(1, s)": "val p.T", "fun(v, \"a\")": "val p.T", "fun(1)": "@0:11", "fun(1, s, s)": "@0:11", "fun(s, s)": "@4:11", "fun(1, 1)": "@7:11", "fun(f, x)": "@4:11", "fun(1, x)": "@7:8", "fun(x, y)": "@4:8", "fun(x)": "@0:11", "none()": "none", "none(1)": "@0:11", "none()()": "@0:11", "fn(1)": "val string", "fn(s)": "@3:11", "v(1)": "@0:11", "gen(1)": "@0:11", "gen[int, []int](1)": "val []int", "nil()": "@0:11", "x(1)": "@0:8", "t.Set(1)": "none", "t.Get() + 1": "val int", "fac(t)": "none", "fac(pt)": "none", "fac(face)": "none", "fac(e)": "@4:11", "fac(nil)": "none", "anyf(1)": "none", "anyf(nil)": "none", "anyf(big)": "@5:2", "anyf(gen)": "@5:11", "anyf(none)": "none", "anyf(none())": "@5:11", "anyf(T)": "@5:11", "anyf(1 == 1)": "none", "anyf(v == 1)": "none", "anyf(t)": "none", "fun(1.0, s)": "val p.T", "fun(1.5, s)": "@4:2", "fun(big, s)": "@4:2", "fun(i8, s)": "@4:11", "g.Me() + 1": "val int", "lf[0]": "var func()", "none": "val func()", "fun((1), (s))": "val p.T",
	} {
		if got := check(t, text, false); got != want {
			t.Errorf("%s: %s", text, got)
		}
	}
}

func TestP18_1Convert(t *testing.T) {
	for text, want := range map[string]string{
		"int(1)": "const int 1", "int(1.0)": "const int 1", "int(1.5)": "@0:2", "int8(200)": "@0:2", "I(7)": "const p.I 7", "F(1)": "const p.F 1", "float32(16777217)": "const float32 16777216", "S(\"a\")": "const p.S \"a\"", "B(true)": "const p.B true", "B(1 == 1)": "const p.B true", "B(v == 1)": "val p.B", "int(i8)": "const int 100", "int8(c)": "const int8 7", "I(ci)": "const p.I 5", "int(ci)": "const int 5", "float64(ci)": "const float64 5", "string(1)": "@0:11", "int(\"a\")": "@0:11", "bool(1)": "@0:11", "uint8('a')": "const uint8 97", "int(fs)": "const int 3", "string(ss)": "const string \"hey\"",
		"int(v)": "val int", "int(f)": "val int", "F(v)": "val p.F", "float32(i)": "val float32", "I(v)": "val p.I", "int(i)": "val int", "string(v)": "@0:11", "S(s)": "val p.S", "string(S(s))": "val string", "bool(B(b))": "val bool", "B(b)": "val p.B", "int(s)": "@0:11", "int(b)": "@0:11",
		"any(1)": "val interface{}", "any(big)": "@0:2", "any(nil)": "val interface{}", "any(t)": "val interface{}", "Face(t)": "val p.Face", "Face(pt)": "val p.Face", "Face(e)": "@0:11", "Face(1)": "@0:11", "Any(1)": "val p.Any", "Two(two)": "val p.Two", "Two(face)": "@0:11", "(interface{})(v)": "val interface{}",
		"PI(pi)": "val p.PI", "(*int)(pI)": "val *int", "(*I)(pi)": "val *p.I", "PI(pn)": "val p.PI", "(*string)(pi)": "@0:11", "(*T)(nil)": "val *p.T", "(*T)(pt)": "val *p.T", "(*E)(pt)": "@0:11", "T(nil)": "@0:11", "int(nil)": "@0:11", "L(nil)": "val p.L", "L(ls)": "val p.L", "[]int(l)": "val []int", "A(la)": "val p.A", "M(nil)": "val p.M", "Fn(nil)": "val p.Fn", "(func())(none)": "val func()", "Fn(fun)": "@0:11", "[]int(la)": "@0:11", "(struct{ a int })(t)": "@0:11", "T2(struct{ a int }(x))": "@19:8",
		"int()": "@0:11", "int(1, 2)": "@0:11", "int(x)": "@4:8", "int(x, y)": "@0:11", "int(int)": "@0:11", "int(none())": "@0:11", "int(gen)": "@0:11", "any(gen)": "@0:11", "any(T)": "@0:11", "any(none())": "@0:11", "x(y)": "@0:8", "G[int](g)": "val p.G[int]", "comparable(1)": "@0:11",
	} {
		if got := check(t, text, false); got != want {
			t.Errorf("%s: %s", text, got)
		}
	}
	for text, want := range map[string]string{"P(x)": "val #0", "P(y)": "@0:11", "P(1)": "@0:11", "P(nil)": "@0:11", "any(x)": "val interface{}", "Face(x)": "@0:11", "interface{ a() }(z)": "val interface{a()}", "Q(y)": "val #1", "int(y)": "@0:11", "Two(z)": "val p.Two", "(*P)(nil)": "val *#0"} {
		if got := check(t, text, true, "x #0", "y #1", "z #2"); got != want {
			t.Errorf("%s: %s", text, got)
		}
	}
}

func TestP18_1Unary(t *testing.T) {
	for text, want := range map[string]string{
		"*pi": "var int", "*pI": "var int", "*pt": "var p.T", "*v": "@0:11", "*nil": "@0:11", "*1": "@0:11", "*none()": "@0:11", "*gen": "@0:11", "*pt.E": "var p.E",
		"!true": "const untyped bool false", "!b": "val bool", "!B(b)": "val p.B", "!v": "@0:11", "!1": "@0:11", "!(v == 1)": "val untyped bool", "!nil": "@0:11", "!T": "@0:11", "!cb": "const untyped bool false",
		"-1": "const untyped int -1", "-1.5": "const untyped float -3/2", "-'a'": "const untyped rune -97", "+f": "val p.F", "-v": "val int", "-s": "@0:11", "+s": "@0:11", "-i8": "const int8 -100", "-uint8(1)": "@0:2", "-ci": "const p.I -5", "+nil": "@0:11", "-int8(-128)": "@0:2", "-true": "@0:11",
		"^1": "const untyped int -2", "^u8": "val uint8", "^uint8(1)": "const uint8 254", "^1.0": "@0:11", "^f": "@0:11", "^fs": "@0:11", "^cr": "const untyped rune -66", "^i": "val p.I", "^b": "@0:11", "-x": "@1:8", "- -1": "const untyped int 1",
	} {
		if got := check(t, text, false); got != want {
			t.Errorf("%s: %s", text, got)
		}
	}
	for text, want := range map[string]string{"-x": "@0:11", "!x": "@0:11", "*x": "@0:11"} {
		if got := check(t, text, true, "x #1"); got != want {
			t.Errorf("%s: %s", text, got)
		}
	}
}

func TestP18_1Shift(t *testing.T) {
	for text, want := range map[string]string{
		"1 << 3 + 2": "const untyped int 10", "1 << 3": "const untyped int 8", "1.0 << 3": "const untyped int 8", "1.5 << 3": "@0:2", "'a' << 1": "const untyped int 194", "\"a\" << 1": "@0:11", "true << 1": "@0:11", "8 >> 1.0": "const untyped int 4", "8 >> 1.5": "@0:2", "8 >> -1": "@0:2", "1 << 600": "@0:2", "1 << big": "@0:2", "1 << \"a\"": "@0:11", "1 << true": "@0:11",
		"i8 << 1": "@0:2", "i8 >> 1": "const int8 50", "ci << 2": "const p.I 20", "1 << i8": "const untyped int 1267650600228229401496703205376", "ci << ci": "const p.I 160", "float64(1) << 1": "@0:11", "ss << 1": "@0:11", "1 << F(1)": "const untyped int 2", "1 << F(1.5)": "@0:2",
		"v << 1": "val int", "v << u8": "val int", "v << v": "val int", "v << i": "val int", "v << f": "@0:11", "v << s": "@0:11", "v << -1": "@0:2", "v << 1000": "val int", "v << 1.5": "@0:2", "v << 1.0": "val int", "i << 2": "val p.I", "f << 1": "@0:11", "1 << v": "@0:11", "int8(1) << v": "val int8", "i8 << v": "val int8", "c << v": "@0:11", "nil << 1": "@0:11", "1 << nil": "@0:11", "T << 1": "@0:11", "x << y": "@0:8", "1 << y": "@5:8", "v << (v == 1)": "@0:11", "f << f": "@0:11", "v >> big": "val int",
	} {
		if got := check(t, text, false); got != want {
			t.Errorf("%s: %s", text, got)
		}
	}
}

func TestP18_1Binary(t *testing.T) {
	for text, want := range map[string]string{
		"1 + 2": "const untyped int 3", "1 + 2.5": "const untyped float 7/2", "1 + 'a'": "const untyped rune 98", "'a' + 1.0": "const untyped float 98", "\"a\" + \"b\"": "const untyped string \"ab\"", "\"a\" + 1": "@0:11", "true + true": "@0:11", "true && false": "const untyped bool false", "true || 1": "@0:11", "1 && 2": "@0:11", "7 / 2": "const untyped int 3", "7 / 2.0": "const untyped float 7/2", "7 % 2": "const untyped int 1", "7.0 % 2": "@0:11", "6 & 3": "const untyped int 2", "6 | 3": "const untyped int 7", "6 ^ 3": "const untyped int 5", "6.0 & 3": "@0:11", "1 / 0": "@0:4", "1 % 0": "@0:4", "1.0 / 0": "@0:4", "-1 & 1": "@0:2", "big * big": "@0:2", "nil + nil": "@0:11", "1 + nil": "@0:11", "nil + 1": "@0:11", "1 + none()": "@0:11", "T + 1": "@0:11", "gen + 1": "@0:11",
		"v + 1": "val int", "1 + v": "val int", "v + 1.0": "val int", "v + 1.5": "@0:2", "v + big": "@0:2", "v + \"a\"": "@0:11", "v + v": "val int", "v + i": "@0:11", "v + u8": "@0:11", "i + 1": "val p.I", "i + ci": "val p.I", "ci + 1": "const p.I 6", "1 + ci": "const p.I 6", "i8 + 100": "@0:2", "i8 - 100": "const int8 0", "i8 + c": "const int8 107", "i8 + ci": "@0:11", "f + 1": "val p.F", "f + f64": "@0:11", "f / 0": "val p.F", "v / 0": "@0:4", "v % 0": "@0:4", "v / (1 - 1)": "@0:4", "v / v": "val int", "0 / v": "val int", "f % f": "@0:11", "f & f": "@0:11", "v & 3": "val int", "v ^ -1": "val int", "v | u8": "@0:11", "u8 & 256": "@0:2", "s + s": "val string", "s + \"a\"": "val string", "s - s": "@0:11", "S(s) + s": "@0:11", "s + S(\"a\")": "@0:11", "b && b": "val bool", "b && true": "val bool", "b || v == 1": "val bool", "v == 1 || v == 2": "val untyped bool", "B(b) && v == 1": "val p.B", "B(b) && b": "@0:11", "b + b": "@0:11", "v && b": "@0:11", "v == 1 && 1": "@0:11", "pt + pt": "@0:11", "pt + nil": "@0:11", "l + l": "@0:11", "x + y": "@0:8", "1 + y": "@4:8", "i8 / 0": "@0:4", "0.5 / 0.0": "@0:4", "i8 * 2": "@0:2",
	} {
		if got := check(t, text, false); got != want {
			t.Errorf("%s: %s", text, got)
		}
	}
	for text, want := range map[string]string{"x + x": "@0:11", "x + 1": "@0:11", "y == y": "@0:11", "z == z": "val untyped bool", "x == x": "val untyped bool", "x < x": "@0:11", "y == nil": "@0:11", "y + nil": "@0:11"} {
		if got := check(t, text, true, "x #1", "y #0", "z #3"); got != want {
			t.Errorf("%s: %s", text, got)
		}
	}
}

func TestP18_1Compare(t *testing.T) {
	for text, want := range map[string]string{
		"1 == 1": "const untyped bool true", "1 == 1.0": "const untyped bool true", "1 < 2.5": "const untyped bool true", "\"a\" >= \"b\"": "const untyped bool false", "true == false": "const untyped bool false", "true < false": "@0:11", "1 == \"a\"": "@0:11", "1 == true": "@0:11", "1 != 2": "const untyped bool true", "2 <= 1": "const untyped bool false", "2 > 1": "const untyped bool true", "ci == 5": "const untyped bool true", "ci < 1.5": "@0:2", "i8 == 200": "@0:2", "nil == nil": "@0:11", "1 == nil": "@0:11",
		"v == 1": "val untyped bool", "v < 1": "val untyped bool", "s < s": "val untyped bool", "b == b": "val untyped bool", "b < b": "@0:11", "b == true": "val untyped bool", "t == t": "@0:11", "e == e": "val untyped bool", "nc == nc": "@0:11", "l == nil": "val untyped bool", "nil == l": "val untyped bool", "l == l": "@0:11", "l < nil": "@0:11", "m == nil": "val untyped bool", "fn == nil": "val untyped bool", "nil != fn": "val untyped bool", "fn == fn": "@0:11", "pt == nil": "val untyped bool", "pt == pt": "val untyped bool", "face == nil": "val untyped bool", "face == face": "val untyped bool", "face == t": "@0:11", "any1 == 1": "val untyped bool", "1 == any1": "val untyped bool", "any1 == big": "@0:2", "any1 == t": "@0:11", "any1 == any1": "val untyped bool", "any1 < 1": "@0:11", "v == nil": "@0:11", "t == nil": "@0:11", "a == a": "val untyped bool", "v == i": "@0:11", "v == T": "@0:11", "none == nil": "val untyped bool", "none() == 1": "@0:11", "1 == x": "@5:8", "pi == pI": "@0:11", "g == g": "val untyped bool", "face == 1": "@0:11", "any1 == (v == 1)": "val untyped bool", "(v == 1) == true": "val untyped bool", "(v == 1) == b": "val untyped bool", "(v == 1) == 1": "@0:11", "pt < nil": "@0:11",
	} {
		if got := check(t, text, false); got != want {
			t.Errorf("%s: %s", text, got)
		}
	}
}

func TestP18_2(t *testing.T) {
	places := func(w api.World) map[string]int {
		m := map[string]int{}
		for i := range w.Unit.Types {
			text, _ := typ.Text(w.Unit.Types, i)
			m[text] = i
		}
		return m
	}
	for _, c := range []struct {
		text, to string
		at       int
		why      api.Errno
	}{
		{"1", "int", 0, api.OK}, {"1", "p.I", 0, api.OK}, {"1.0", "int8", 0, api.OK}, {"200", "int8", 0, api.ErrOver}, {"1.5", "int", 0, api.ErrOver}, {"1", "string", 0, api.ErrType}, {"\"a\"", "p.S", 0, api.OK}, {"\"a\"", "int", 0, api.ErrType}, {"true", "p.B", 0, api.OK}, {"v == 1", "p.B", 0, api.OK}, {"v == 1", "int", 0, api.ErrType}, {"v == 1", "interface{}", 0, api.OK}, {"1", "interface{}", 0, api.OK}, {"big", "interface{}", 0, api.ErrOver}, {"1", "p.Any", 0, api.OK}, {"1", "p.Face", 0, api.ErrType}, {"1", "p.T", 0, api.ErrType}, {"1", "p.L", 0, api.ErrType}, {"1", "#0", 0, api.ErrType}, {"1e100", "float32", 0, api.ErrOver}, {"0.1", "float32", 0, api.OK}, {"i8", "int8", 0, api.OK}, {"i8", "int", 0, api.ErrType}, {"ci", "int", 0, api.ErrType},
		{"nil", "p.PI", 0, api.OK}, {"nil", "p.L", 0, api.OK}, {"nil", "p.M", 0, api.OK}, {"nil", "p.Fn", 0, api.OK}, {"nil", "p.Face", 0, api.OK}, {"nil", "interface{}", 0, api.OK}, {"nil", "int", 0, api.ErrType}, {"nil", "p.T", 0, api.ErrType}, {"nil", "p.A", 0, api.ErrType}, {"nil", "#0", 0, api.ErrType}, {"nil", "untyped nil", 0, api.ErrType}, {"1", "untyped int", 0, api.ErrType},
		{"v", "int", 0, api.OK}, {"v", "p.I", 0, api.ErrType}, {"l", "[]int", 0, api.OK}, {"ls", "p.L", 0, api.OK}, {"la", "p.A", 0, api.OK}, {"pi", "p.PI", 0, api.OK}, {"pI", "*int", 0, api.OK}, {"t", "p.Face", 0, api.OK}, {"pt", "p.Face", 0, api.OK}, {"e", "p.Face", 0, api.ErrType}, {"face", "interface{}", 0, api.OK}, {"any1", "p.Face", 0, api.ErrType}, {"two", "interface{}", 0, api.OK}, {"v", "interface{}", 0, api.OK}, {"v", "interface{comparable}", 0, api.ErrType}, {"v", "p.Num", 0, api.ErrType}, {"any1", "p.Any", 0, api.OK}, {"t", "p.T2", 0, api.ErrType}, {"ls", "p.M", 0, api.ErrType},
		{"none()", "int", 0, api.ErrType}, {"T", "int", 0, api.ErrType}, {"gen", "interface{}", 0, api.ErrType}, {"x", "int", 0, api.ErrNone}, {"fun(1, x)", "int", 7, api.ErrNone}, {"(v)", "p.I", 0, api.ErrType}, {"-(v)", "p.I", 0, api.ErrType},
	} {
		w, v, i := world(t, c.text, false)
		to, ok := places(w)[c.to]
		if !ok {
			t.Fatal(c.to)
		}
		u, bad := Assign(w, v, i, to)
		want := []api.Bad{{Pkg: "p", At: len(header) + c.at, Why: c.why}}
		if c.why == api.OK && (bad != nil || !decl.Right(u)) || c.why != api.OK && (!slices.Equal(bad, want) || u.Src != nil) {
			t.Error(c, bad)
		}
	}
	// Of type params.
	w, v, i := world(t, "x", true)
	at := places(w)
	v.Names, v.Types = []string{"x"}, []int{at["#0"]}
	for to, want := range map[string]bool{"#0": true, "#1": false, "interface{}": true, "p.Face": false} {
		if _, bad := Assign(w, v, i, at[to]); (bad == nil) != want {
			t.Error(to, bad)
		}
	}
	v.Types[0] = at["#2"]
	for to, want := range map[string]bool{"#2": true, "p.Two": true, "interface{}": true, "#0": false, "p.Face": false} {
		if _, bad := Assign(w, v, i, at[to]); (bad == nil) != want {
			t.Error(to, bad)
		}
	}
}

func TestP18Wrong(t *testing.T) {
	w, v, i := world(t, "v", false)
	bad := []api.Bad{{Why: api.ErrArg}}
	check := func(w api.World, v api.Env, i, to int) {
		t.Helper()
		if u, x, b := Check(w, v, i); u.Src != nil || x.Mode != 0 || !slices.Equal(b, bad) {
			t.Error(x, b)
		}
		if u, b := Assign(w, v, i, to); u.Src != nil || !slices.Equal(b, bad) {
			t.Error(b)
		}
	}
	check(api.World{}, v, i, 2)
	x := w
	x.Objs = nil
	check(x, v, i, 2)
	for _, f := range []int{-1, 2, 1 << 40} {
		c := v
		c.Ctx.File = f
		check(w, c, i, 2)
	}
	for _, k := range []int{-1, len(w.Prog.Files[v.Ctx.File].Nodes)} {
		check(w, v, k, 2)
	}
	for _, b := range [][]int{{}, {2}, {-1}, {len(w.Unit.Types)}, {api.YAny, api.YAny}} {
		c := v
		c.Ctx.Params, c.Ctx.Bounds = []string{"A"}, b
		check(w, c, i, 2)
	}
	c := v
	c.Ctx.Params, c.Ctx.Bounds = slices.Repeat([]string{"A"}, 17), slices.Repeat([]int{api.YAny}, 17)
	check(w, c, i, 2)
	for _, types := range [][]int{{}, {2, 2}, {-1}, {len(w.Unit.Types)}, {api.UBool}, {api.UNil}, {api.UInt}} {
		c := v
		c.Names, c.Types = []string{"x"}, types
		check(w, c, i, 2)
	}
	c = v
	c.Names, c.Types = slices.Repeat([]string{"x"}, 21), slices.Repeat([]int{2}, 21)
	check(w, c, i, 2)
	c.Names, c.Types = c.Names[:20], c.Types[:20]
	if _, _, b := Check(w, c, i); b != nil {
		t.Error(b)
	}
	for _, to := range []int{-1, len(w.Unit.Types), 1 << 40} {
		if u, b := Assign(w, v, i, to); u.Src != nil || !slices.Equal(b, bad) {
			t.Error(to, b)
		}
	}
	// Nodes that are no expressions.
	for k, n := range w.Prog.Files[v.Ctx.File].Nodes {
		_, _, b := Check(w, v, k)
		switch n.Kind {
		case api.NNone, api.NField, api.NParam, api.NMethod, api.NUnion, api.NTerm, api.NConst, api.NVar, api.NType, api.NTypes, api.NOf, api.NDecl, api.NRecv, api.NBody, api.NImport, api.NFile:
			if len(b) != 1 || b[0].Why != api.ErrType || b[0].At != n.At {
				t.Error(n, b)
			}
		}
	}
}

func TestP18_3(t *testing.T) {
	for _, text := range []string{"1", "1.0", "'a'", "\"s\"", "true", "nil", "v", "i", "f", "s", "b", "t", "pt", "l", "a", "m", "fn", "face", "any1", "pi", "g", "v == 1", "i8", "ci", "c", "big", "ls", "1 << 7", "-1", "2.5"} {
		for _, to := range []string{"int", "I", "F", "int8", "uint8", "float32", "S", "string", "B", "bool", "T", "L", "M", "Fn", "Face", "any", "Any", "G[int]", "[]int", "(*int)", "PI"} {
			w2, v2, k := world(t, to+"("+text+")", false)
			u, x, bad := Check(w2, v2, k)
			if bad != nil {
				continue
			}
			if x.Mode == api.MConst {
				form := x.Type
				if w2.Unit.Types[form].Kind == api.KNamed {
					form = map[string]int{"I": api.YInt, "F": api.YFloat64, "S": api.YString, "B": api.YBool}[to]
				}
				if y, e := konst.Fits(x.Val, form); e != api.OK || !konst.Like(y, x.Val) {
					t.Error(text, to, x)
				}
			}
			if _, bad := Assign(u, v2, k, x.Type); bad != nil {
				t.Error(text, to, bad)
			}
		}
	}
}

// TestMany: what unit, subst, tset and sel tell is told at the node.
func TestMany(t *testing.T) {
	for text, want := range map[string]int{"x.g": 0, "x == x": 0, "anyf(x)": 5, "-x": 0, "x[0]": 0, "int(x)": 0, "x << 1": 0, "v << x": 0, "fac(x)": 4, "G[bool](x)": 0, "gen[string, []string]": 12, "(x)": -1, "f[x]": 0, "x()": 0, "l[x]": 0, "x + x": 0, "x < x": 0, "fun(x, s)": 4} {
		w, v, i := world(t, text, false)
		u, at, e := unit.Put(w.Unit, api.Type{Kind: api.KNamed, Name: "p.G", Kids: []int{api.YFloat32}})
		if e != api.OK {
			t.Fatal(e)
		}
		for n := 0; len(u.Types) < api.MaxTypes; n++ {
			u.Types = append(slices.Clip(u.Types), api.Type{Kind: api.KArray, N: 5000 + n, Kids: []int{2}})
		}
		w.Unit = u
		v.Names, v.Types = []string{"x"}, []int{at}
		_, _, bad := Check(w, v, i)
		if want < 0 && bad != nil || want >= 0 && (len(bad) != 1 || bad[0].At != len(header)+want) {
			t.Error(text, bad)
		}
		if want >= 0 && len(bad) == 1 && bad[0].Why != api.ErrMany && text != "f[x]" {
			t.Error(text, bad)
		}
	}
}

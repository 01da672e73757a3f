package scope

import (
	"fmt"
	"math/rand"
	"slices"
	"strings"
	"testing"

	"indenture/api"
)

// sources are of texts such as `p: file | file`, in which `;` may stand for new lines.
func sources(l ...string) []api.Source {
	var s []api.Source
	for _, x := range l {
		path, files, _ := strings.Cut(x, ": ")
		one := api.Source{Path: path}
		for _, f := range strings.Split(files, " || ") {
			if !strings.Contains(f, "package") {
				f = "package " + path + ";" + f
			}
			one.Files = append(one.Files, f)
		}
		s = append(s, one)
	}
	return s
}

func showBad(l []api.Bad) string {
	var s []string
	for _, b := range l {
		s = append(s, fmt.Sprintf("%s.%d@%d:%d", b.Pkg, b.File, b.At, b.Why))
	}
	return strings.Join(s, " ")
}

func showDecls(p api.Program, places []int) string {
	var s []string
	for _, i := range places {
		d := p.Decls[i]
		x := d.Pkg + "." + d.Name
		if d.Kind == api.DMethod {
			x = d.Pkg + "." + d.Recv + "." + d.Name
		}
		s = append(s, x)
	}
	return strings.Join(s, " ")
}

func empty(p api.Program) bool {
	return p.Paths == nil && p.Files == nil && p.Decls == nil
}

func TestP16_1(t *testing.T) {
	p, bad := Collect(sources("q: import \"p\"; import `r`;const A=p.X;func (x *T[B]) M() {}; type T[B int] int", "p: var X = 1 || type U int; func F() {}; func (u U) G() {}; func (*U) _() {}", "r: var _ = 2"))
	if showBad(bad) == "" {
		t.Fatal("*U without a name is no receiver")
	}
	p, bad = Collect(sources("q: import \"p\"; import `r`;const A=p.X;func (x *T[B]) M() {}; type T[B int] int", "p: var X = 1 || type U int; func F() {}; func (u U) G() {}; func (_ *U) _() {}", "r: var _ = 2"))
	if bad != nil {
		t.Fatal(showBad(bad))
	}
	if !slices.Equal(p.Paths, []string{"p", "r", "q"}) || len(p.Files) != 4 {
		t.Error(p.Paths, len(p.Files))
	}
	for i, want := range []string{"p 0 []", "p 1 []", "r 0 []", "q 0 [p r]"} {
		if f := p.Files[i]; fmt.Sprint(f.Pkg, " ", f.No, " ", f.Imports) != want {
			t.Error(i, f.Pkg, f.No, f.Imports)
		}
	}
	got := ""
	for _, d := range p.Decls {
		if p.Files[d.File].Nodes[d.Node].Text != d.Name {
			t.Error(d)
		}
		got += fmt.Sprintf("%d %s.%s %s %d; ", d.Kind, d.Pkg, d.Name, d.Recv, d.File)
	}
	if want := "2 p.X  0; 3 p.U  1; 4 p.F  1; 5 p.G U 1; 5 p._ U 1; 2 r._  2; 1 q.A  3; 5 q.M T 3; 3 q.T  3; "; got != want {
		t.Error(got)
	}
}

func TestP16_1Order(t *testing.T) {
	for _, c := range []struct {
		l    []string
		want string
	}{
		{[]string{"a: import \"b\"", "b: import \"c\"", "c: "}, "[c b a]"},
		{[]string{"a: import \"c\"", "b: ", "c: "}, "[b c a]"},
		{[]string{"a: ", "b: import \"a\"", "c: ", "d: import \"b\" || import \"c\""}, "[a b c d]"},
		{[]string{"d: import \"b\" || import \"c\"", "c: ", "b: import \"a\"", "a: "}, "[c a b d]"},
		{[]string{"b: import \"a\"", "a: ", "c: import \"a\""}, "[a b c]"},
		{[]string{"c: import \"b\"", "b: import \"a\"", "a: ", "d: "}, "[a b c d]"},
	} {
		p, bad := Collect(sources(c.l...))
		if fmt.Sprint(p.Paths) != c.want || bad != nil {
			t.Error(c, p.Paths, showBad(bad))
		}
	}
}

func TestP16_1Wrong(t *testing.T) {
	one := api.Source{Path: "p", Files: []string{"package p"}}
	five := slices.Repeat([]string{"package p"}, 5)
	for i, l := range [][]api.Source{
		nil, {}, {one, one}, {{Path: "p"}}, {{Path: "_", Files: one.Files}}, {{Path: "", Files: one.Files}}, {{Path: "a b", Files: one.Files}}, {{Path: "p/q", Files: one.Files}}, {{Path: strings.Repeat("p", 21), Files: one.Files}}, {{Path: "p", Files: five}},
		{{Path: "a", Files: []string{""}}, {Path: "b", Files: one.Files}, {Path: "c", Files: one.Files}, {Path: "d", Files: one.Files}, {Path: "e", Files: one.Files}},
	} {
		if p, bad := Collect(l); !empty(p) || showBad(bad) != ".0@0:1" {
			t.Error(i, showBad(bad))
		}
	}
	for _, c := range []struct {
		l    []string
		want string
	}{
		// Texts: all files', ahead of all else.
		{[]string{"p: package q || var", "q: var || const A = $ || var x int"}, "p.1@13:5 q.0@13:5 q.1@20:12"},
		{[]string{"p: import \"q\" ||  package p; " + strings.Repeat("a", 21)}, "p.1@12:7"},
		{[]string{"p: " + strings.Repeat(" ", 4000)}, "p.0@0:7"},
		// Packages' names, and imports.
		{[]string{"p: package q"}, "p.0@0:11"},
		{[]string{"p: package q; || \n package r;import \"p\"; import \"x\"", "q: import \"p\";import `p`;import \"p\""}, "p.0@0:11 p.1@2:11 p.1@12:8 p.1@24:8 q.0@21:9 q.0@32:9"},
		{[]string{"p: import \"\\z\";import \"\";import \"q\"; import \"x\"; import \"x\"", "q: "}, "p.0@10:8 p.0@22:8 p.0@44:8 p.0@56:8"},
		{[]string{"p: import \"r\"; const A = 1; const A = 1", "q: package x"}, "p.0@10:8 q.0@0:11"},
		// Order.
		{[]string{"a: import \"b\"", "b: import \"a\""}, "a.0@0:10"},
		{[]string{"a: ", "b: import \"c\"", "c:  || import \"b\""}, "b.0@0:10"},
		{[]string{"d: import \"a\"", "a: import \"b\"", "b: import \"a\"; var x int; var x int"}, "d.0@0:10"},
	} {
		l := sources(c.l...)
		p, bad := Collect(l)
		if got := showBad(bad); !empty(p) || got != c.want {
			t.Errorf("%q: %s", c.l, got)
		}
	}
}

func TestP16_1Decls(t *testing.T) {
	for _, c := range []struct {
		l    []string
		want string
	}{
		{[]string{"p: const a = 1; var a = 1; type a int; func a() {}; func b() {}"}, "p.0@23:9 p.0@34:9 p.0@46:9"},
		{[]string{"p: const _ = 1; var _ = 1; type _ int; func _() {}; func _() {}"}, ""},
		{[]string{"p: var a int || var a int || var a int", "q: var a int"}, "p.1@10:9 p.2@10:9"},
		{[]string{"p: var q int || import \"q\"", "q: "}, "p.0@10:9"},
		{[]string{"p: import \"q\"; func q() {}; type q int", "q: "}, "p.0@22:9 p.0@35:9"},
		{[]string{"p: import \"q\"; type T int; func (t T) q() {}", "q: "}, ""},
		{[]string{"p: func (t T) F() {}; type T int; func F() {}; func (t *T) F() {}; var T int"}, "p.0@54:9 p.0@74:9"},
		{[]string{"p: func (t T) F() {}; func (t U) F() {}; func (t T) _() {}; func (t T) _() {}; type U int; type T int"}, ""},
		{[]string{"p: func (t T) F() {}", "q: type T int"}, "p.0@10:8"},
		{[]string{"p: func (t T) F() {}; var T int"}, "p.0@10:8"},
		{[]string{"p: func (t T) F() {}; func (t T) F() {}"}, "p.0@10:8 p.0@29:8"},
		{[]string{"p: func (t []T) F() {}; func (t **T) F() {};func (t _) F() {}; func (t *_) F() {}; func (t (T)) F() {}; func (t T[[]A]) F() {}; func (t p.T) F() {}; func (t T[A, B]) G() {}; type T[A int] int"}, "p.0@15:11 p.0@36:11 p.0@56:11 p.0@75:11 p.0@95:11 p.0@116:11 p.0@140:11"},
		{[]string{"p: func (t T) F[A int]() {}; type T int; func (t T) F() {}; func (t T) F() {}"}, "p.0@10:11 p.0@48:9 p.0@67:9"},
		{[]string{"p: func (t T) F[A int]() {}; func (t []T) G[A int]() {}"}, "p.0@10:11 p.0@41:11"},
		{[]string{"p: func (t []T) F() {}; func F() {}"}, "p.0@15:11"},
		{[]string{"p: type T int; func (t *T[A]) F() {}; func (t T) G() {}; func (x *T) G() {}"}, "p.0@64:9"},
		{[]string{"a: import \"b\"; var x int; var x int", "b: var y int; var y int"}, "b.0@21:9 a.0@33:9"},
	} {
		p, bad := Collect(sources(c.l...))
		if got := showBad(bad); got != c.want || empty(p) != (c.want != "") {
			t.Errorf("%q: %s", c.l, got)
		}
	}
}

func TestP16_2(t *testing.T) {
	for _, c := range []struct {
		l    []string
		of   string
		want string
	}{
		{[]string{"p: const a = b + b + c(d); const b = 1; func c(x int) int { return x }; var d = 1; var e = 2"}, "p.a", "p.b p.c p.d"},
		{[]string{"p: var a = a"}, "p.a", "p.a"},
		{[]string{"p: var a T = x.b; type T int; var b int; var x T"}, "p.a", "p.x"},
		{[]string{"p: var a T; type T [b]int; const b = 1; func (t T) m() int { return b }"}, "p.T", "p.b"},
		{[]string{"p: type T[b int] [b]c; const b = 1; const c = 2"}, "p.T", "p.c"},
		{[]string{"p: type T[b interface{~[c]int}] [b]int; const b = 1; const c = 2"}, "p.T", "p.c"},
		{[]string{"p: type T func(b c) d; var b int; var c int; var d int"}, "p.T", "p.c p.d"},
		{[]string{"p: type T struct{b c; d}; var b int; var c int; var d int"}, "p.T", "p.c p.d"},
		{[]string{"p: func f[b c](d e) g { return b(d, h) }; var b int; var c int; var d int; var e int; var g int; var h int"}, "p.f", "p.c p.e p.g p.h"},
		{[]string{"p: type T[X int] int; func (t T[X]) f(d e) g { return t(d, X, f, T) }; var t int; var X int; func f() {}; var d int; var e int; var g int"}, "p.T.f", "p.X p.f p.e p.g"},
		{[]string{"p: type T int; func (_ T) f(x func(y int) int) int { return x(y) }; var x int; var y int"}, "p.T.f", "p.y"},
		{[]string{"p: import \"q\"; var a = q.b + q.T(1) + q.f().c; var b int; var c int", "q: var b = 1; type T int; func f() int { return 1}; var c int"}, "p.a", "q.b q.f"},
		{[]string{"p: import \"q\"; func a(q int) int { return q.b }", "q: var b = 1"}, "p.a", ""},
		{[]string{"p: var a = q.b || import \"q\"", "q: var b = 1"}, "p.a", ""},
		{[]string{"p: import \"q\"; type T int; func (t T) q() {}; var a = q.b", "q: var b = 1"}, "p.a", "q.b"},
		{[]string{"p: import \"q\"; var a = (q).b + q.b.b", "q: var b = 1"}, "p.a", "q.b"},
		{[]string{"p: import \"q\"; var a = q.r.b", "q: var r = 1", "r: var b = 1"}, "p.a", "q.r"},
		{[]string{"p: var a = _; var _ = 1; var _ = 2; func _() {}; type _ int"}, "p.a", "p._ p._ p._"},
		{[]string{"p: var a int = 1; const b = 2"}, "p.a", ""},
	} {
		p, bad := Collect(sources(c.l...))
		if bad != nil {
			t.Fatal(c, showBad(bad))
		}
		i := slices.IndexFunc(p.Decls, func(d api.Decl) bool {
			return c.of == d.Pkg+"."+d.Name && d.Kind != api.DMethod || c.of == d.Pkg+"."+d.Recv+"."+d.Name
		})
		l, e := Uses(p, i)
		if got := showDecls(p, l); got != c.want || e != api.OK || !slices.IsSorted(l) {
			t.Error(c, got, e)
		}
	}
}

func TestP16_2Wrong(t *testing.T) {
	p, _ := Collect(sources("p: const a = 1; var b = a; type T int; func f() {}; func (t T) m() {}"))
	for _, i := range []int{-1, 5, 1 << 40} {
		if l, e := Uses(p, i); l != nil || e != api.ErrNone {
			t.Error(i, l, e)
		}
	}
	root := len(p.Files[0].Nodes) - 1
	for n, change := range []func(p *api.Program){
		func(p *api.Program) { p.Files[0].Nodes = nil },
		func(p *api.Program) { p.Files[0].Nodes = p.Files[0].Nodes[:root] },
		func(p *api.Program) { p.Files[0].Nodes = p.Files[0].Nodes[:1] },
		func(p *api.Program) { p.Decls[0].File = 1 },
		func(p *api.Program) { p.Decls[0].File = -1 },
		func(p *api.Program) { p.Decls[0].Node = root },
		func(p *api.Program) { p.Decls[0].Node = 0 },
		func(p *api.Program) { p.Decls[0].Node = -1 },
		func(p *api.Program) { p.Decls[0].Kind = api.DVar },
		func(p *api.Program) { p.Decls[0].Kind = 0 },
		func(p *api.Program) { p.Decls[0].Kind = 6 },
		func(p *api.Program) { p.Decls[1].Kind = api.DConst },
		func(p *api.Program) { p.Decls[2].Kind = api.DFunc },
		func(p *api.Program) { p.Decls[3].Kind = api.DType },
	} {
		q, _ := Collect(sources("p: const a = 1; var b = a; type T int; func f() {}; func (t T) m() {}"))
		change(&q)
		for _, i := range []int{0, -1} {
			if l, e := Uses(q, i); l != nil || e != api.ErrArg {
				t.Error(n, l, e)
			}
		}
		if l, bad := Order(q); l != nil || showBad(bad) != ".0@0:1" {
			t.Error(n, l, showBad(bad))
		}
	}
	// Of DMethod and DFunc an NDecl; what names tell is what Decls say.
	p.Decls[3].Kind = api.DMethod
	p.Decls[4].Kind = api.DFunc
	p.Decls[0].Name = "z"
	if l, e := Uses(p, 1); len(l) != 0 || e != api.OK {
		t.Error(l, e)
	}
	p.Decls[4].Name = "a"
	if l, e := Uses(p, 1); !slices.Equal(l, []int{4}) || e != api.OK {
		t.Error(l, e)
	}
	if l, e := Order(api.Program{}); len(l) != 0 || e != nil {
		t.Error(l, e)
	}
}

func TestP16_3(t *testing.T) {
	for _, c := range []struct {
		l         []string
		want, bad string
	}{
		{[]string{"p: var a = b; const b = 1"}, "p.b p.a", ""},
		{[]string{"p: var a = 1; var b = 2; const c = 3"}, "p.a p.b p.c", ""},
		{[]string{"p: var a = c; var b = 1; var c = d; var d = b"}, "p.b p.d p.c p.a", ""},
		{[]string{"p: var a = d; var b = d; var c = 1; var d = 2"}, "p.c p.d p.a p.b", ""},
		{[]string{"p: var a = f(); var b = 1; func f() int { return g() }; func g() int { return b + f() }"}, "p.b p.a", ""},
		{[]string{"p: var z = 1; var a = f(); func f() int { return g() }; func g() int { return a }"}, "", "p.0@21:10"},
		{[]string{"p: var a = a"}, "", "p.0@10:10"},
		{[]string{"p: var x = a; const b = a; const a = b; var c = 1"}, "", "p.0@10:10"},
		{[]string{"p: var c = 1; const b = a; const a = b; var x = a"}, "", "p.0@21:10"},
		{[]string{"p: func f() int { return f() }; var a = f()"}, "p.a", ""},
		{[]string{"p: type T int; func (t T) m() int { return a }; var a = T(1).m()"}, "p.a", ""},
		{[]string{"p: import \"q\"; var a = q.b; var c = a", "q: var z = b; var b = 1"}, "q.b q.z p.a p.c", ""},
		{[]string{"p: var a T; type T [a]int"}, "p.a", ""},
		{[]string{"p: var a [b]int; const b = 1"}, "p.b p.a", ""},
		{[]string{"q: import \"p\"; || const k = k", "p: "}, "", "q.1@10:10"},
		{[]string{"p: func f() {}"}, "", ""},
	} {
		p, bad := Collect(sources(c.l...))
		if bad != nil {
			t.Fatal(c, showBad(bad))
		}
		l, bad := Order(p)
		if got := showDecls(p, l); got != c.want || showBad(bad) != c.bad {
			t.Error(c, got, showBad(bad))
		}
	}
}

func TestP16_4(t *testing.T) {
	r := rand.New(rand.NewSource(1))
	fine := 0
	for range 600 {
		var l []string
		names := strings.Fields("a b c d")
		r.Shuffle(4, func(i, k int) { names[i], names[k] = names[k], names[i] })
		for i, path := range names[:1+r.Intn(4)] {
			text := ""
			for _, other := range names[:i] {
				if r.Intn(2) == 0 {
					text += "import \"" + other + "\";"
				}
			}
			for n := range 4 + r.Intn(4) {
				v := string(rune('s' + r.Intn(8)))
				text += fmt.Sprintf("%s %c%s", []string{"const", "var", "func"}[r.Intn(3)], 's'+n, map[bool]string{true: "() int { return " + v + " };", false: " = " + v + ";"}[false])
			}
			text = strings.ReplaceAll(text, "func", "const")
			l = append(l, path+": "+text)
		}
		r.Shuffle(len(l), func(i, k int) { l[i], l[k] = l[k], l[i] })
		p, bad := Collect(sources(l...))
		if bad != nil {
			t.Fatal(l, showBad(bad))
		}
		for i, path := range p.Paths {
			for _, f := range p.Files {
				for _, x := range f.Imports {
					if f.Pkg == path && !slices.Contains(p.Paths[:i], x) {
						t.Fatal(l, p.Paths)
					}
				}
			}
		}
		order, bad := Order(p)
		if bad != nil {
			continue
		}
		fine++
		if len(order) != len(p.Decls) {
			t.Fatal(order)
		}
		for n, i := range order {
			uses, _ := Uses(p, i)
			for _, k := range uses {
				if !slices.Contains(order[:n], k) {
					t.Fatal(l, order)
				}
			}
		}
	}
	if fine < 20 {
		t.Error("too few are fine", fine)
	}
}

package write

import (
	"math/rand"
	"strings"
	"testing"

	"indenture/api"
	"indenture/ast"
	"indenture/parse"
)

func tree(t *testing.T, s string) []api.Node {
	t.Helper()
	read := parse.Expr
	if strings.HasPrefix(s, "package") {
		read = parse.File
	}
	l, at, e := read(s)
	if e != api.OK {
		t.Fatalf("%s: %d %d", s, at, e)
	}
	return l
}

func TestP9_1(t *testing.T) {
	for s, want := range map[string]string{
		"f( a+1,b )":                          "f(a + 1, b)",
		"x":                                   "x",
		"0x1":                                 "0x1",
		"1.5":                                 "1.5",
		"'a'":                                 "'a'",
		"`a\nb`":                              "`a\nb`",
		"a.b . c":                             "a.b.c",
		"1 .x":                                "1 .x",
		"1. .x":                               "1. .x",
		"(1).x":                               "(1).x",
		"f()":                                 "f()",
		"f(a,)(b)":                            "f(a)(b)",
		"a[b,c,]":                             "a[b, c]",
		"- - !x":                              "--!x",
		"a*b- -c":                             "a * b - -c",
		"((a))":                               "((a))",
		"[]  *a":                              "[]*a",
		"[2+1] int":                           "[2 + 1]int",
		"map [a]  b":                          "map[a]b",
		"func ( )":                            "func()",
		"func(a b,c d,) e":                    "func(a b, c d) e",
		"func()(a)":                           "func() (a)",
		"func()func()[]a":                     "func() func() []a",
		"struct { }":                          "struct{}",
		"struct{a b\n*c\nd.e[f,];}":           "struct { a b; *c; d.e[f] }",
		"interface { }":                       "interface{}",
		"interface{m( )\nn(a b)c;~a|b}":       "interface { m(); n(a b) c; ~a | b }",
		"package  p":                          "package p\n",
		"package p;import \"q\";import `r`":   "package p\nimport \"q\"\nimport `r`\n",
		"package p;const a=1;const b c=2":     "package p\nconst a = 1\nconst b c = 2\n",
		"package p;var a=1;var b c=2;var d e": "package p\nvar a = 1\nvar b c = 2\nvar d e\n",
		"package p;type T U;type V[A any,B ~c|d,]A;type W [ n ] U": "package p\ntype T U\ntype V[A any, B ~c | d] A\ntype W [n]U\n",
		"package p;func f(){}":                                 "package p\nfunc f() {}\n",
		"package p;func f(){return}":                           "package p\nfunc f() {}\n",
		"package p;func(a *T[A])f(b c)(d){return(e);}":         "package p\nfunc (a *T[A]) f(b c) (d) { return (e) }\n",
		"package p;func f[A any,](a A)struct{}{return a}":      "package p\nfunc f[A any](a A) struct{} { return a }\n",
		"package p;func(a T)m[A b](){}":                        "package p\nfunc (a T) m[A b]() {}\n",
		"package p\n// c\n\n\ntype T struct{}":                 "package p\ntype T struct{}\n",
		"package p;type T interface{interface{a}|struct{b c}}": "package p\ntype T interface { interface { a } | struct { b c } }\n",
	} {
		l := tree(t, s)
		if got, e := Text(l); got != want || e != api.OK {
			t.Errorf("%s: %q %d", s, got, e)
		}
	}
}

func TestP9_1Wrong(t *testing.T) {
	name := api.Node{Kind: api.NName, Text: "x"}
	one := func(kind int, text string, kids ...int) api.Node {
		return api.Node{Kind: kind, Text: text, Kids: kids}
	}
	for _, l := range [][]api.Node{
		nil,
		{{Kind: -1}},
		{name, name},
		{one(api.NParen, "", 0)},
		{{Kind: api.NNone}},                         // is written as nothing
		{{Kind: api.NName, Text: "x y"}},            // is no name
		{{Kind: api.NName, Text: "1"}},              // is read as a number
		{{Kind: api.NName, Text: "func"}},           //
		{{Kind: api.NName, Text: ""}},               //
		{{Kind: api.NInt, Text: "1.5"}},             // is read as an NFloat
		{{Kind: api.NName, Text: "x+y"}},            // is read as an NBinary
		{name, one(api.NParen, "t", 0)},             // has a text that isn't written
		{name, name, one(api.NBinary, "&&&", 0, 1)}, //
		{name, name, one(api.NBinary, "+", 1, 0)},   // kids in another order
		{name, name, name, one(api.NBinary, "+", 0, 1), one(api.NBinary, "*", 3, 2)}, // binds otherwise
		{name, name, one(api.NCall, "", 0, 1), one(api.NBody, "", 2)},
		{{Kind: api.NNone}, one(api.NFunc, "", 0), name, one(api.NCall, "", 1, 2)}, // is read as a result
		{{Kind: api.NFile}},
		{{Kind: api.NFile, Text: "p q"}},
		{name, one(api.NFile, "p", 0)},
		{{Kind: api.NName, Text: strings.Repeat("x", 21)}},
		{name, one(api.NMethod, "m", 0)}, // a signature of what is no NFunc
		{name, one(api.NMethod, "m", 0), one(api.NIface, "", 1)},
		{{Kind: api.NString, Text: "\"" + strings.Repeat("x", 4000) + "\""}},
		{{Kind: api.NString, Text: "\"\xff\""}},
		{{Kind: api.NName, Text: "a /* b */"}},
	} {
		if s, e := Text(l); s != "" || e != api.ErrArg {
			t.Errorf("%v: %q %d", l, s, e)
		}
	}
	if s, e := Text([]api.Node{{Kind: api.NString, Text: "\"" + strings.Repeat("x", 3998) + "\"", At: 4000}}); len(s) != 4000 || e != api.OK {
		t.Error(len(s), e)
	}
	chain := []api.Node{name}
	for i := range 1999 {
		chain = append(chain, one(api.NParen, "", i))
	}
	if s, e := Text(chain); s != "" || e != api.ErrArg {
		t.Error(s, e)
	}
}

// maker makes random texts.
type maker struct{ *rand.Rand }

func (m maker) of(l ...string) string { return l[m.Intn(len(l))] }

func (m maker) many(n int, sep string, f func() string) string {
	var l []string
	for range m.Intn(n) {
		l = append(l, f())
	}
	return strings.Join(l, sep)
}

func (m maker) typ(deep int) string {
	if deep == 0 {
		return m.of("a", "b", "p.Q")
	}
	t := func() string { return m.typ(deep - 1) }
	switch m.Intn(10) {
	case 0:
		return "*" + t()
	case 1:
		return "(" + t() + ")"
	case 2:
		return "[]" + t()
	case 3:
		return "[" + m.expr(deep-1) + "]" + t()
	case 4:
		return "map[" + t() + "]" + t()
	case 5:
		return "func" + m.function(deep)
	case 6:
		return "struct{" + m.many(4, ";", func() string { return m.of("f "+t(), "*"+t(), "e", "p.E", "p.E["+t()+"]", "g "+t()) }) + "}"
	case 7:
		return "interface{" + m.many(4, "\n", func() string { return m.of("m"+m.function(deep), m.union(deep)) }) + "}"
	case 8:
		return m.of("a", "p.Q") + "[" + t() + m.of("", ","+t(), ",") + "]"
	}
	return t()
}

func (m maker) function(deep int) string {
	return "(" + m.many(3, ",", func() string { return "x " + m.typ(deep-1) }) + ")" + m.of("", m.typ(deep-1))
}

func (m maker) union(deep int) string {
	term := func() string { return m.of("", "~") + m.typ(deep-1) }
	return term() + m.of("", "|"+term(), "|"+term()+"|"+term())
}

func (m maker) expr(deep int) string {
	if deep == 0 {
		return m.of("x", "y", "1", "2.5", "3.", "'c'", "\"d\"", "0x1")
	}
	x := func() string { return m.expr(deep - 1) }
	switch m.Intn(9) {
	case 0:
		return "(" + x() + ")"
	case 1:
		return m.of("-", "+", "!", "^", "*") + x()
	case 2:
		return x() + m.of("+", "-", "*", "/", "%", "<<", ">>", "==", "!=", "<", "&&", "||", "&", "|", "^") + x()
	case 3:
		return "f(" + m.many(3, ",", x) + ")"
	case 4:
		return "x[" + x() + m.of("", ","+x()) + "]"
	case 5:
		return "(" + x() + ").s"
	case 6:
		return m.of("1 .s", "x.s", "2.5 .s")
	case 7:
		return m.of("[]", "[3]", "map[a]") + m.typ(deep-1) + "(" + x() + ")"
	}
	return x()
}

func (m maker) decl() string {
	types := func() string { return m.of("", "", "[A a]", "[A ~"+m.typ(1)+",B interface{}]") }
	switch m.Intn(6) {
	case 0:
		return "const c" + m.of("", " "+m.typ(2)) + "=" + m.expr(3)
	case 1:
		return "var v=" + m.expr(3)
	case 2:
		return "var v " + m.typ(2) + m.of("", "="+m.expr(2))
	case 3:
		return "type T" + types() + " " + m.typ(3)
	}
	return "func " + m.of("", "(r "+m.typ(2)+")") + "f" + types() + m.function(3) + "{" + m.of("", "return", "return "+m.expr(3), "return "+m.expr(2)+";") + "}"
}

func (m maker) file() string {
	return "package p\n" + m.many(3, "", func() string { return "import \"a\"\n" }) + m.many(5, "", func() string { return m.decl() + m.of("\n", ";") })
}

func TestP9_2(t *testing.T) {
	m := maker{rand.New(rand.NewSource(1))}
	texts := map[string][]api.Node{}
	parsed := 0
	for range 6000 {
		s, read := m.expr(m.Intn(5)), parse.Expr
		if m.Intn(2) == 0 {
			s, read = m.file(), parse.File
		}
		l, _, e := read(s)
		if e != api.OK { // some of these texts are ambiguous
			continue
		}
		parsed++
		text, e := Text(l)
		if len(text) == 0 && e == api.ErrArg && len(s) > 2000 {
			continue
		}
		again, _, e1 := read(text)
		if e != api.OK || e1 != api.OK || !ast.Like(l, again) {
			t.Fatalf("%s: %s %d %d", s, text, e, e1)
		}
		if twice, e := Text(again); twice != text || e != api.OK {
			t.Fatalf("%s: %s %s", s, text, twice)
		}
		if other, ok := texts[text]; ok && !ast.Like(other, l) {
			t.Fatalf("two trees of one text: %s", text)
		}
		texts[text] = l
	}
	if parsed < 4000 {
		t.Error("too few texts", parsed)
	}
}

package parse

import (
	goast "go/ast"
	goparser "go/parser"
	"math/rand"
	"slices"
	"strconv"
	"strings"
	"testing"

	"indenture/api"
	"indenture/ast"
)

var kinds = strings.Fields("None Name Int Float Rune String Sel Call Index Unary Binary Paren Slice Array Map Func Struct Iface Field Param Method Union Term Const Var Type Types Of Decl Recv Body Import File")

// show writes a node: its kind, its text, its place, its kids.
func show(l []api.Node, i int, places bool) string {
	n := l[i]
	s := kinds[n.Kind]
	if n.Text != "" {
		s += " " + n.Text
	}
	if places {
		s += "@" + strconv.Itoa(n.At)
	}
	for _, k := range n.Kids {
		s += " " + show(l, k, places)
	}
	if len(n.Kids) > 0 {
		s = "(" + s + ")"
	}
	return s
}

func root(l []api.Node, places bool) string {
	if len(l) == 0 {
		return ""
	}
	return show(l, len(l)-1, places)
}

// behind tells whether each node stands right behind its kids, and these in order, as they are made.
func behind(l []api.Node) bool {
	next := 0
	var walk func(i int) bool
	walk = func(i int) bool {
		for _, k := range l[i].Kids {
			if !walk(k) {
				return false
			}
		}
		next++
		return i == next-1
	}
	return walk(len(l)-1) && next == len(l)
}

func TestP8_2Expr(t *testing.T) {
	for s, want := range map[string]string{
		"a+b*2":                                 "(Binary +@0 Name a@0 (Binary *@2 Name b@2 Int 2@4))",
		"a*b+2":                                 "(Binary +@0 (Binary *@0 Name a@0 Name b@2) Int 2@4)",
		"a-b-c":                                 "(Binary -@0 (Binary -@0 Name a@0 Name b@2) Name c@4)",
		"a||b&&c==d+e":                          "(Binary ||@0 Name a@0 (Binary &&@3 Name b@3 (Binary ==@6 Name c@6 (Binary +@9 Name d@9 Name e@11))))",
		"a<b==c;":                               "(Binary ==@0 (Binary <@0 Name a@0 Name b@2) Name c@5)",
		" -(x)\n":                               "(Unary -@1 (Paren@2 Name x@3))",
		"*!^+x.y":                               "(Unary *@0 (Unary !@1 (Unary ^@2 (Unary +@3 (Sel y@4 Name x@4)))))",
		"f(a,b,)[1](g())":                       "(Call@0 (Index@0 (Call@0 Name f@0 Name a@2 Name b@4) Int 1@8) (Call@11 Name g@11))",
		"a[b,c,]":                               "(Index@0 Name a@0 Name b@2 Name c@4)",
		"(a).b.c":                               "(Sel c@0 (Sel b@0 (Paren@0 Name a@1)))",
		"1.5 .x+'a'+\"s\"":                      "(Binary +@0 (Binary +@0 (Sel x@0 Float 1.5@0) Rune 'a'@7) String \"s\"@11)",
		"[]int(x)":                              "(Call@0 (Slice@0 Name int@2) Name x@6)",
		"[2+n]*p.T":                             "(Array@0 (Binary +@1 Int 2@1 Name n@3) (Unary *@5 (Sel T@6 Name p@6)))",
		"map[a][]b(c)":                          "(Call@0 (Map@0 Name a@4 (Slice@6 Name b@8)) Name c@10)",
		"func(a b, c (d),)":                     "(Func@0 (Param a@5 Name b@7) (Param c@10 (Paren@12 Name d@13)) None@17)",
		"func()(x)":                             "(Func@0 (Paren@6 Name x@7))",
		"func() func() []T[a,b,]":               "(Func@0 (Func@7 (Slice@14 (Index@16 Name T@16 Name a@18 Name b@20))))",
		"struct{}(x)":                           "(Call@0 Struct@0 Name x@9)",
		"struct{a b; *c; d; e.f\n}":             "(Struct@0 (Field a@7 Name b@9) (Field@12 (Unary *@12 Name c@13)) (Field@16 Name d@16) (Field@19 (Sel f@19 Name e@19)))",
		"struct{a []b; c.d[e]; f[2]g; h *i; j}": "(Struct@0 (Field a@7 (Slice@9 Name b@11)) (Field@14 (Index@14 (Sel d@14 Name c@14) Name e@18)) (Field f@22 (Array@23 Int 2@24 Name g@26)) (Field h@29 (Unary *@31 Name i@32)) (Field@35 Name j@35))",
		"interface{}":                           "Iface@0",
		"interface{m() int; n(a b)\n}":          "(Iface@0 (Method m@10 (Func@11 Name int@14)) (Method n@19 (Func@20 (Param a@21 Name b@23) None@25)))",
		"interface{~a|b.c; ~[]d | *e;}":         "(Iface@0 (Union@10 (Term ~@10 Name a@11) (Term@13 (Sel c@13 Name b@13))) (Union@18 (Term ~@18 (Slice@19 Name d@21)) (Term@25 (Unary *@25 Name e@26))))",
		"interface{interface{m()}|func()|x}":    "(Iface@0 (Union@10 (Term@10 (Iface@10 (Method m@20 (Func@21 None@23)))) (Term@25 (Func@25 None@31)) (Term@32 Name x@32)))",
	} {
		l, at, e := Expr(s)
		if got := root(l, true); got != want || at != 0 || e != api.OK || !behind(l) || !ast.Right(l) {
			t.Errorf("%s:\n%s\n%s %d %d", s, got, want, at, e)
		}
	}
}

func TestP8_2File(t *testing.T) {
	for s, want := range map[string]string{
		"package p":                                   "File p@0",
		" package p; import \"a\"; import `b`;":       "(File p@1 Import \"a\"@12 Import `b`@24)",
		"package p\nconst a = 1":                      "(File p@0 (Const a@10 None@18 Int 1@20))",
		"package p\nconst a []b = 1;":                 "(File p@0 (Const a@10 (Slice@18 Name b@20) Int 1@24))",
		"package p\nvar a = 1":                        "(File p@0 (Var a@10 None@16 Int 1@18))",
		"package p\nvar a b":                          "(File p@0 (Var a@10 Name b@16 None@17))",
		"package p\nvar a b = c\n":                    "(File p@0 (Var a@10 Name b@16 Name c@20))",
		"package p\ntype T U":                         "(File p@0 (Type T@10 Types@17 Name U@17))",
		"package p\ntype T [n]U":                      "(File p@0 (Type T@10 Types@17 (Array@17 Name n@18 Name U@20)))",
		"package p\ntype T [n+1]U":                    "(File p@0 (Type T@10 Types@17 (Array@17 (Binary +@18 Name n@18 Int 1@20) Name U@22)))",
		"package p\ntype T [A any, B ~c|d,] []A":      "(File p@0 (Type T@10 (Types@17 (Of A@18 (Union@20 (Term@20 Name any@20))) (Of B@25 (Union@27 (Term ~@27 Name c@28) (Term@30 Name d@30)))) (Slice@34 Name A@36)))",
		"package p\ntype T [A interface{}] A":         "(File p@0 (Type T@10 (Types@17 (Of A@18 (Union@20 (Term@20 Iface@20)))) Name A@33))",
		"package p\nfunc f() {}":                      "(File p@0 (Decl f@10 None@15 Types@16 (Func@16 None@19) (Body@19 None@20)))",
		"package p\nfunc f() { return\n}":             "(File p@0 (Decl f@10 None@15 Types@16 (Func@16 None@19) (Body@19 None@27)))",
		"package p\nfunc f() { return }":              "(File p@0 (Decl f@10 None@15 Types@16 (Func@16 None@19) (Body@19 None@28)))",
		"package p\nfunc f[A *b](c A) d {return c;}":  "(File p@0 (Decl f@10 None@15 (Types@16 (Of A@17 (Union@19 (Term@19 (Unary *@19 Name b@20))))) (Func@22 (Param c@23 Name A@25) Name d@28) (Body@30 Name c@38)))",
		"package p\nfunc (r *T[A]) m() { return r\n}": "(File p@0 (Decl m@10 (Recv r@15 (Unary *@18 (Index@19 Name T@19 Name A@21))) Types@26 (Func@26 None@29) (Body@29 Name r@38)))",
		"package p\nfunc f() (a) {\n}":                "(File p@0 (Decl f@10 None@15 Types@16 (Func@16 (Paren@19 Name a@20)) (Body@23 None@25)))",
	} {
		l, at, e := File(s)
		if got := root(l, true); got != want || at != 0 || e != api.OK || !behind(l) || !ast.Right(l) {
			t.Errorf("%s:\n%s\n%s %d %d", s, got, want, at, e)
		}
	}
}

// wrong is a text, where it is wrong, and why.
type wrong struct {
	s  string
	at int
	e  api.Errno
}

func TestP8_1(t *testing.T) {
	for _, c := range []wrong{
		{"", 0, api.ErrSyntax}, {"a b", 2, api.ErrSyntax}, {"a+", 2, api.ErrSyntax}, {"a;;", 2, api.ErrSyntax}, {"a\n;", 2, api.ErrSyntax},
		{"a.", 2, api.ErrSyntax}, {"a.1", 1, api.ErrSyntax}, {"a. 1", 3, api.ErrSyntax}, {"f(,)", 2, api.ErrSyntax}, {"f(a b)", 4, api.ErrSyntax}, {"f(a", 3, api.ErrSyntax}, {"a[]", 2, api.ErrSyntax}, {"a[1", 3, api.ErrSyntax}, {"a[1:2]", 3, api.ErrSyntax},
		{"()", 1, api.ErrSyntax}, {"(a", 2, api.ErrSyntax}, {"*[]*", 4, api.ErrSyntax}, {"[", 1, api.ErrSyntax}, {"[]", 2, api.ErrSyntax}, {"[1 2]a", 3, api.ErrSyntax}, {"[]1", 2, api.ErrSyntax}, {"[][1]", 5, api.ErrSyntax}, {"[]a[1]", 4, api.ErrSyntax},
		{"map", 3, api.ErrSyntax}, {"map[a", 5, api.ErrSyntax}, {"map[a]", 6, api.ErrSyntax}, {"map[1]a", 4, api.ErrSyntax}, {"map[*]a", 5, api.ErrSyntax},
		{"func", 4, api.ErrSyntax}, {"func(a)", 6, api.ErrSyntax}, {"func(a b c)", 9, api.ErrSyntax}, {"func(a b,,)", 9, api.ErrSyntax}, {"func(,)", 5, api.ErrSyntax}, {"func() *", 8, api.ErrSyntax}, {"func() 1", 7, api.ErrSyntax},
		{"struct", 6, api.ErrSyntax}, {"struct{;}", 7, api.ErrSyntax}, {"struct{a b c}", 11, api.ErrSyntax}, {"struct{a b;;}", 11, api.ErrSyntax}, {"struct{1}", 7, api.ErrSyntax}, {"struct{a, b int}", 8, api.ErrSyntax}, {"struct{a[b]}", 11, api.ErrSyntax}, {"struct{(a)}", 7, api.ErrSyntax}, {"struct{a", 8, api.ErrSyntax}, {"struct{a }", 0, api.OK}, {"struct{", 7, api.ErrSyntax},
		{"interface{m}", 0, api.OK}, {"interface{m(}", 12, api.ErrSyntax}, {"interface{|}", 10, api.ErrSyntax}, {"interface{a|}", 12, api.ErrSyntax}, {"interface{~}", 11, api.ErrSyntax}, {"interface{~~a}", 11, api.ErrSyntax}, {"interface{a b}", 12, api.ErrSyntax},
		{"a := 1", 2, api.ErrSyntax}, {"a & &b", 4, api.ErrSyntax}, {"~a", 0, api.ErrSyntax}, {"if", 0, api.ErrSyntax}, {"a ! b", 2, api.ErrSyntax}, {"a...", 1, api.ErrSyntax}, {"func(){}", 6, api.ErrSyntax}, {"T{}", 1, api.ErrSyntax},
		// What the scanner tells comes first.
		{"a b $", 4, api.ErrByte}, {"a b \"", 4, api.ErrSyntax}, {") \x00", 2, api.ErrByte}, {strings.Repeat("+", 1500), 0, api.ErrMany}, {strings.Repeat(" ", 4001), 0, api.ErrMany}, {") " + strings.Repeat("a", 21), 2, api.ErrMany},
	} {
		l, at, e := Expr(c.s)
		if at != c.at || e != c.e || e != api.OK && l != nil {
			t.Errorf("%s: %d %d", c.s, at, e)
		}
	}
}

func TestP8_1File(t *testing.T) {
	for _, c := range []wrong{
		{"", 0, api.ErrSyntax}, {"packag p", 0, api.ErrSyntax}, {"package", 7, api.ErrSyntax}, {"package 1", 8, api.ErrSyntax}, {"package p import", 10, api.ErrSyntax}, {"package p;;", 10, api.ErrSyntax},
		{"package p;import p", 17, api.ErrSyntax}, {"package p;import \"a\" \"b\"", 21, api.ErrSyntax}, {"package p;var a b;import \"a\"", 18, api.ErrSyntax}, {"package p;import 'a'", 17, api.ErrSyntax},
		{"package p;a", 10, api.ErrSyntax}, {"package p;const a", 17, api.ErrSyntax}, {"package p;const a = ", 20, api.ErrSyntax}, {"package p;const a b", 19, api.ErrSyntax}, {"package p;const = 1", 16, api.ErrSyntax}, {"package p;const a b c", 20, api.ErrSyntax},
		{"package p;var a", 15, api.ErrSyntax}, {"package p;var a,b int", 15, api.ErrSyntax}, {"package p;var a = ;", 18, api.ErrSyntax}, {"package p;var a b = 1 2", 22, api.ErrSyntax}, {"package p;var 1", 14, api.ErrSyntax},
		{"package p;type T", 16, api.ErrSyntax}, {"package p;type T = U", 17, api.ErrSyntax}, {"package p;type T [A B U", 22, api.ErrSyntax}, {"package p;type T [A *B] U", 0, api.OK}, {"package p;type T [A []B] U", 21, api.ErrSyntax}, {"package p;type T [A B]", 22, api.ErrSyntax}, {"package p;type T [A B,,] U", 22, api.ErrSyntax}, {"package p;type T []", 19, api.ErrSyntax}, {"package p;type T [A func()] U", 20, api.ErrSyntax},
		{"package p;func", 14, api.ErrSyntax}, {"package p;func f", 16, api.ErrSyntax}, {"package p;func f[](){}", 17, api.ErrSyntax}, {"package p;func f[A](){}", 18, api.ErrSyntax}, {"package p;func f()", 18, api.ErrSyntax}, {"package p;func f() int", 22, api.ErrSyntax}, {"package p;func f() {x}", 20, api.ErrSyntax}, {"package p;func f() {return x y}", 29, api.ErrSyntax}, {"package p;func f() {return;;}", 27, api.ErrSyntax}, {"package p;func f() {return x;;}", 29, api.ErrSyntax}, {"package p;func f() {;}", 20, api.ErrSyntax}, {"package p;func f() {} {}", 22, api.ErrSyntax}, {"package p;func f() {return", 26, api.ErrSyntax},
		{"package p;func (T) f() {}", 17, api.ErrSyntax}, {"package p;func () f() {}", 16, api.ErrSyntax}, {"package p;func (a b) (c) f() {}", 21, api.ErrSyntax}, {"package p;func (a b,) f() {}", 19, api.ErrSyntax}, {"package p;func (a b) f[A c]() {}", 0, api.OK}, {"package p;func (a b) [A c]f() {}", 21, api.ErrSyntax},
		{"package p;import \"a\"", 0, api.OK}, {"package p;go", 10, api.ErrSyntax},
	} {
		l, at, e := File(c.s)
		if at != c.at || e != c.e || e != api.OK && l != nil {
			t.Errorf("%s: %d %d", c.s, at, e)
		}
	}
}

func TestP8_1Deep(t *testing.T) {
	many := strings.Repeat
	for _, c := range []wrong{
		{many("(", 19) + "x" + many(")", 19), 0, api.OK},
		{many("(", 20) + "x" + many(")", 20), 20, api.ErrDeep},
		{many("(", 20), 20, api.ErrDeep},
		{many("(", 20) + "}", 20, api.ErrDeep},
		{many("(", 19) + "}", 19, api.ErrSyntax},
		{many("(", 18) + "-1)-(-1" + many(")", 18), 0, api.OK},
		{many("-", 38) + "x", 0, api.OK},
		{many("-", 39) + "x", 39, api.ErrDeep},
		{many("-", 39) + "]", 39, api.ErrDeep},
		{many("-", 38) + "]", 38, api.ErrSyntax},
		{many("f(", 19) + "x" + many(")", 19), 0, api.OK},
		{many("f(", 20) + many(")", 20), 0, api.OK},
		{many("f(", 20) + "x" + many(")", 20), 40, api.ErrDeep},
		{many("a[", 20) + "1", 40, api.ErrDeep},
		{many("a[", 19) + "-1", 39, api.ErrDeep},
		{many("1+", 700) + "1", 0, api.OK},
		{"[]" + many("*", 37) + "a", 0, api.OK},
		{"[]" + many("*", 38) + "a", 40, api.ErrDeep},
		{"[]" + many("*", 38) + "+", 40, api.ErrDeep},
		{many("[]", 38) + "a", 0, api.OK},
		{many("[]", 39) + "a", 78, api.ErrDeep},
		{many("interface{", 20) + "a" + many("}", 20), 200, api.ErrDeep},
		{many("interface{", 19) + "a" + many("}", 19), 0, api.OK},
		{many("interface{", 19) + "~}" + many("}", 19), 191, api.ErrSyntax},
		{"(" + many("interface{", 18) + "*a" + many("}", 18) + ")", 182, api.ErrDeep},
		{"(" + many("[", 1) + many("(", 17) + "x" + many(")", 17) + "]a)", 0, api.OK},
	} {
		l, at, e := Expr(c.s)
		if at != c.at || e != c.e || e != api.OK && l != nil {
			t.Errorf("%s: %d %d", c.s, at, e)
		}
	}
	// a || b && c == d + e * f: each is begun within the one ahead.
	for n, want := range map[int]api.Errno{16: api.OK, 17: api.ErrDeep} {
		s := many("(", n) + "a||b&&c==d+e*f" + many(")", n)
		if _, at, e := Expr(s); e != want || e != api.OK && at != n+13 {
			t.Error(n, at, e)
		}
	}
	// A Union counts, and so does the Type within.
	for n, want := range map[int]int{38: 0, 39: 29 + 39} {
		s := "package p;type T interface{" + many("*", n-1) + "a}"
		if _, at, e := File(s); want == 0 && e != api.OK || want != 0 && (e != api.ErrDeep || at != want-3) {
			t.Error(n, at, e)
		}
	}
	// A Named that is a field is no Type, but its kids are.
	s := "package p;type T struct{a.b[" + many("*", 39) + "c]}"
	if _, at, e := File(s); at != len(s)-3 || e != api.ErrDeep {
		t.Error(at, e)
	}
	if _, _, e := File(strings.Replace(s, "*", "", 1)); e != api.OK {
		t.Error(e)
	}
}

func TestP8_1Many(t *testing.T) {
	// 1 node of the interface, 3 of each term.
	s := "interface{" + strings.Repeat("a;", 666) + "}"
	if l, at, e := Expr(s); len(l) != 1999 || at != 0 || e != api.OK {
		t.Error(len(l), at, e)
	}
	if l, at, e := Expr(s + "(b)"); l != nil || at != len(s)+3 || e != api.ErrMany {
		t.Error(len(l), at, e)
	}
	if l, at, e := Expr("-" + s); len(l) != 2000 || at != 0 || e != api.OK {
		t.Error(len(l), at, e)
	}
	if l, at, e := Expr("--" + s + " )"); l != nil || at != len(s)+3 || e != api.ErrMany {
		t.Error(len(l), at, e)
	}
	if l, at, e := Expr("-" + s + " )"); l != nil || at != len(s)+2 || e != api.ErrSyntax {
		t.Error(len(l), at, e)
	}
	if l, at, e := Expr("interface{" + strings.Repeat("a;", 670) + "}"); l != nil || at != 10+2*666+1 || e != api.ErrMany {
		t.Error(len(l), at, e)
	}
}

// binaries and unaries are operators, pieces are tokens of which random texts are made.
var binaries = strings.Fields("|| && == != < <= > >= + - | ^ * / % & << >>")
var unaries = strings.Fields("+ - ! ^ *")
var pieces = strings.Fields("a b.c ( ) [ ] { } , . ; = + - * | ~ func struct interface map return type var const package import 1 1.5 'a' \"s\" == x y")

func expression(r *rand.Rand, deep int) string {
	if deep == 0 {
		return []string{"a", "b", "1", "2.5", "'c'", "\"d\"", "p.Q"}[r.Intn(7)]
	}
	less := func() string { return expression(r, r.Intn(deep)) }
	switch r.Intn(8) {
	case 0:
		return "(" + less() + ")"
	case 1:
		return unaries[r.Intn(5)] + " " + less()
	case 2:
		return "f(" + less() + ", " + less() + ")"
	case 3:
		return "x[" + less() + "]"
	case 4:
		return "(" + less() + ").s"
	}
	return less() + " " + binaries[r.Intn(len(binaries))] + " " + less()
}

// byGo writes an expression of the library's parser as show does.
func byGo(x goast.Expr) string {
	wrap := func(s string, l ...goast.Expr) string {
		for _, k := range l {
			s += " " + byGo(k)
		}
		return "(" + s + ")"
	}
	switch y := x.(type) {
	case *goast.Ident:
		return "Name " + y.Name
	case *goast.BasicLit:
		return map[string]string{"INT": "Int ", "FLOAT": "Float ", "CHAR": "Rune ", "STRING": "String "}[y.Kind.String()] + y.Value
	case *goast.ParenExpr:
		return wrap("Paren", y.X)
	case *goast.UnaryExpr:
		return wrap("Unary "+y.Op.String(), y.X)
	case *goast.StarExpr:
		return wrap("Unary *", y.X)
	case *goast.BinaryExpr:
		return wrap("Binary "+y.Op.String(), y.X, y.Y)
	case *goast.CallExpr:
		return wrap("Call", append([]goast.Expr{y.Fun}, y.Args...)...)
	case *goast.IndexExpr:
		return wrap("Index", y.X, y.Index)
	case *goast.SelectorExpr:
		return wrap("Sel "+y.Sel.Name, y.X)
	}
	return "?"
}

func TestLikeGo(t *testing.T) {
	r := rand.New(rand.NewSource(1))
	for range 5000 {
		s := expression(r, 1+r.Intn(5))
		x, err := goparser.ParseExpr(s)
		l, _, e := Expr(s)
		if e == api.ErrDeep {
			continue
		}
		if err != nil || e != api.OK || root(l, false) != byGo(x) || !behind(l) {
			t.Fatal(s, err, e, root(l, false))
		}
	}
}

func TestP8_3(t *testing.T) {
	r := rand.New(rand.NewSource(2))
	parsed := 0
	for range 60000 {
		s := []string{"", "package p;", "package p;type T ", "package p;func f", "struct{", "interface{"}[r.Intn(6)]
		for range r.Intn(14) {
			s += pieces[r.Intn(len(pieces))] + " "
		}
		for _, f := range []func(string) ([]api.Node, int, api.Errno){File, Expr} {
			l, at, e := f(s)
			m, _, e1 := f(strings.ReplaceAll(s, " ", " /*c*/\t"))
			if e != e1 || e == api.OK && (!ast.Like(l, m) || !ast.Right(l) || !behind(l)) || e != api.OK && (l != nil || at < 0 || at > len(s)) {
				t.Fatalf("%s: %d %d", s, at, e)
			}
			if e == api.OK {
				parsed++
				kids := 0
				for _, n := range l {
					kids += len(n.Kids)
				}
				if kids != len(l)-1 {
					t.Fatal(s)
				}
			}
		}
	}
	if parsed < 500 {
		t.Error("too few texts", parsed)
	}
	a, _, _ := Expr("f(a, b)")
	b, _, _ := Expr("f(a, b)")
	if !slices.EqualFunc(a, b, func(x, y api.Node) bool { return x.At == y.At }) {
		t.Error("not the same twice")
	}
}

package check

import (
	goast "go/ast"
	"go/constant"
	goparser "go/parser"
	"go/token"
	"go/types"
	"math/rand"
	"strings"
	"testing"

	"indenture/api"
)

// gen makes random programs.
type gen struct{ *rand.Rand }

func (g *gen) of(l ...string) string { return l[g.Intn(len(l))] }

func (g *gen) typ(d int) string {
	if d == 0 || g.Intn(3) == 0 {
		return g.of("int", "string", "bool", "float64", "int8", "uint8", "rune", "I", "S", "T", "T2", "F", "P", "L", "any", "Face", "M", "Face2", "E", "B")
	}
	switch g.Intn(7) {
	case 0:
		return "*" + g.typ(d-1)
	case 1:
		return "[]" + g.typ(d-1)
	case 2:
		return "[" + g.of("1", "2", "3") + "]" + g.typ(d-1)
	case 3:
		return "map[" + g.of("int", "string", "I", "S", "T2", "Face", "L", "T", "*T") + "]" + g.typ(d-1)
	case 4:
		return "func(a " + g.typ(d-1) + ") " + g.of("", g.typ(d-1))
	case 5:
		return g.of("G[", "G2[") + g.typ(d-1) + "]"
	}
	return "struct{ a " + g.typ(d-1) + "}"
}

func (g *gen) expr(d int) string {
	if d == 0 || g.Intn(6) == 0 {
		return g.of("0", "1", "2", "3", "100", "300", "1.5", "2.0", "'a'", `"s"`, `"abc"`, "true", "false", "nil", "a", "b", "c", "d", "e", "v1", "v2", "v3", "v4", "v5", "v6", "v7", "v8", "v9", "w1", "w2", "w3", "w4", "w5", "w6", "w7", "w8", "w9", "f1", "f2", "f3")
	}
	x := func() string { return g.expr(d - 1) }
	switch g.Intn(14) {
	case 0:
		return "(" + x() + ")"
	case 1, 2:
		return g.of("-", "+", "!", "^", "*") + x()
	case 3, 4, 5:
		return x() + g.of(" + ", " - ", " * ", " / ", " % ", " == ", " != ", " < ", " >= ", " && ", " || ", " & ", " | ", " ^ ", " << ", " >> ") + x()
	case 6:
		return x() + "." + g.of("X", "y", "N", "Get", "Set", "E", "Z", "a", "G", "Me")
	case 7:
		return x() + "[" + x() + "]"
	case 8:
		return g.of("int", "int8", "uint8", "float64", "string", "I", "S", "F", "bool", "B", "L", "any", "Face", "M") + "(" + x() + ")"
	case 9:
		return g.of("f1()", "f2("+x()+")", "f3("+x()+", "+x()+")", "w7.Get()", "w8.Set("+x()+")")
	case 10:
		return "v" + g.of("1", "2", "3", "4", "5", "6", "7", "8", "9") + g.of(" + ", " - ", " * ", " / ", " == ", " < ") + x()
	case 11:
		return "(" + g.typ(1) + ")(" + x() + ")"
	case 12:
		return "gf[" + g.typ(1) + "](" + x() + ")"
	}
	return g.of("w", "v") + g.of("1", "2", "3", "4", "5", "6", "7", "8", "9") + g.of(".X", ".y", ".Get()", "[0]", "[1]", "[v1]", ".N", ".E", ".Z", ".a")
}

// head is what each program begins with.
const head = `package p
type I int
type S string
type F float64
type B bool
type P *int
type L []int
type M map[string]int
type E struct { Z bool; G int }
func (e *E) Ptr() {}
func (e E) Val() int { return e.G }
type T2 struct { a int; b string }
type T struct { X int; y string; *E; N map[T2]string; w []T }
func (t T) Get() int { return t.X }
func (t *T) Set(a int) {}
type Face interface { Get() int }
type Face2 interface { Get() int; Set(a int) }
type G[A any] struct { a A }
func (g G[A]) Me() A { return g.a }
type G2[A comparable] struct { m map[A]int }
func gf[A any](a A) A { return a }
const a = 1
const b = 2.5
const c = "str"
const d int8 = 5
const e I = 3
var v1 int
var v2 string
var v3 float64
var v4 bool
var v5 int8
var v6 uint8
var v7 I
var v8 S
var v9 F
var w1 T
var w2 *T
var w3 L
var w4 [3]int
var w5 map[string]int
var w6 any
var w7 Face
var w8 Face2
var w9 G[int]
func f1() int { return 1 }
func f2(a int) string { return "x" }
func f3(a string, b float64) T { return w1 }
`

// byGo checks a program as the library does.
func byGo(s string) (*types.Package, error) {
	set := token.NewFileSet()
	f, err := goparser.ParseFile(set, "a.go", s, 0)
	if err != nil {
		return nil, err
	}
	c := types.Config{GoVersion: "go1.27"}
	return c.Check("p", set, []*goast.File{f}, nil)
}

// others tells whether a program may be another one here: texts of numbers, shifts of untyped constants, and operators on bits below 0 are not as in Go.
func others(line string) bool {
	for _, s := range []string{"string(", "S(", "(S)", "(string)", "(any)", "[]rune", "[]byte", "<<", ">>", "++", "--", "&", "|", "^"} {
		if strings.Contains(line, s) {
			return true
		}
	}
	return false
}

// TestLikeGo: random programs are well just if the library says so, and what they declare is of the same types and values.
func TestLikeGo(t *testing.T) {
	g := &gen{rand.New(rand.NewSource(7))}
	well := 0
	for range 1500 {
		line := ""
		switch g.Intn(6) {
		case 0:
			line = "const x = " + g.expr(2)
		case 1:
			line = "const x " + g.of("int", "I", "float64", "string", "S", "bool", "uint8", "F") + " = " + g.expr(2)
		case 2:
			line = "var x " + g.typ(2) + " = " + g.expr(2)
		case 3:
			line = "func x(z " + g.typ(1) + ") " + g.typ(1) + " { return " + g.of(g.expr(2), "z", "z") + " }"
		default:
			line = "var x = " + g.expr(3)
		}
		if others(line) {
			continue
		}
		s := head + line + "\n"
		p, err := byGo(s)
		w, bad := All([]api.Source{{Path: "p", Files: []string{s}}})
		if (err == nil) != (bad == nil) {
			t.Fatal(line, err, bad)
		}
		if err == nil {
			well++
			like(t, line, w, p.Scope().Lookup("x"))
		}
	}
	if well < 80 {
		t.Error("too few are well", well)
	}
}

// like tells whether x is declared as the library says.
func like(t *testing.T, line string, w api.World, o types.Object) {
	t.Helper()
	got, want := show(w, "p.x"), types.TypeString(o.Type(), nil)
	for a, b := range map[string]string{"byte": "uint8", "any": "interface{}"} {
		want = strings.ReplaceAll(want, a, b)
	}
	want = strings.ReplaceAll(strings.ReplaceAll(want, "rune", "int32"), "untyped int32", "untyped rune")
	if c, ok := o.(*types.Const); ok {
		v := c.Val().ExactString()
		if v == "true" || v == "false" || c.Val().Kind() == constant.String {
			want += " " + v
		} else {
			want += " " + constant.ToFloat(c.Val()).ExactString()
		}
	}
	if strings.Contains(want, "func") || strings.Contains(want, "Get()") {
		return // the library writes params' names
	}
	if got != want {
		t.Error(line, got, want)
	}
}

package konst

import (
	"go/constant"
	"go/token"
	"math"
	"math/big"
	"math/rand"
	"strings"
	"testing"

	"indenture/api"
	"indenture/nat"
	"indenture/rat"
)

// num is the number of a text, such as -7 or 1/3.
func num(s string) api.Val {
	neg := strings.HasPrefix(s, "-")
	n, d, ok := strings.Cut(strings.TrimPrefix(s, "-"), "/")
	if !ok {
		d = "1"
	}
	x, e := nat.Parse(n, 10)
	y, e1 := nat.Parse(d, 10)
	r, e2 := rat.Make(neg, x, y)
	if e != api.OK || e1 != api.OK || e2 != api.OK {
		panic(s)
	}
	return number(r)
}

// val is the value of a text: a number, true, false, or what begins with a '.
func val(s string) api.Val {
	switch {
	case s == "true" || s == "false":
		return truth(s == "true")
	case strings.HasPrefix(s, "'"):
		return text(s[1:])
	}
	return num(s)
}

// show writes a value so, or an error.
func show(v api.Val, e api.Errno) string {
	if e != api.OK {
		if !Like(v, api.Val{}) {
			return "not zero"
		}
		return "error " + string(rune('0'+e/10)) + string(rune('0'+e%10))
	}
	if !Right(v) {
		return "not right"
	}
	s, _ := Text(v)
	return s
}

var power = func(n uint) string { return new(big.Int).Lsh(big.NewInt(1), n).String() }

// wrongs are values that may not be.
var wrongs = []api.Val{
	{}, {Kind: 4}, {Kind: -1}, {Kind: api.VNum}, {B: true}, {Kind: api.VBool, S: "a"}, {Kind: api.VBool, R: api.Rat{Den: api.Nat{1}}}, {Kind: api.VString, B: true}, {Kind: api.VString, R: api.Rat{Neg: true}},
	{Kind: api.VString, S: strings.Repeat("a", 201)}, {Kind: api.VNum, R: api.Rat{Num: api.Nat{2}, Den: api.Nat{2}}}, {Kind: api.VNum, B: true, R: api.Rat{Den: api.Nat{1}}}, {Kind: api.VNum, S: "a", R: api.Rat{Den: api.Nat{1}}},
}

func TestP15_1(t *testing.T) {
	rights := []api.Val{val("true"), val("false"), val("'"), val("'" + strings.Repeat("a", 200)), val("0"), val("-1/3"), val(power(511)), {Kind: api.VString, S: "\x00\xff\n\""}}
	texts := []string{"true", "false", `""`, `"` + strings.Repeat("a", 200) + `"`, "0", "-1/3", power(511), "\"\x00\xff\n\"\""}
	for i, v := range rights {
		if s, e := Text(v); !Right(v) || s != texts[i] || e != api.OK {
			t.Error(v, s, e)
		}
		for k, w := range rights {
			if Like(v, w) != (i == k) {
				t.Error(v, w)
			}
		}
	}
	one := val("1")
	for _, v := range wrongs {
		if Right(v) || !Like(v, v) || Like(v, one) {
			t.Error(v)
		}
		if s, e := Text(v); s != "" || e != api.ErrArg {
			t.Error(v, s, e)
		}
		for _, got := range []string{show(Fits(v, 99)), show(Fits(v, 2)), show(Unary("+", v, 2)), show(Unary("?", v, 2)), show(Binary("+", v, one, 2)), show(Binary("/", one, v, 2)), show(Shift("<<", v, one, 2)), show(Shift(">>", one, v, 2))} {
			if got != "error 01" {
				t.Error(v, got)
			}
		}
		for _, op := range []string{"==", "<", "?"} {
			if b, e := Compare(op, v, one); b || e != api.ErrArg {
				t.Error(v, b, e)
			}
			if b, e := Compare(op, one, v); b || e != api.ErrArg {
				t.Error(v, b, e)
			}
		}
	}
	for _, basic := range []int{-1, 19, 20, 21, 22, 1 << 40} {
		for _, got := range []string{show(Fits(one, basic)), show(Unary("+", one, basic)), show(Binary("+", one, one, basic)), show(Shift("<<", one, one, basic))} {
			if got != "error 01" {
				t.Error(basic, got)
			}
		}
	}
}

func TestP15_2(t *testing.T) {
	for basic, c := range map[int][2]string{
		api.YInt: {"-" + power(63), power(63)}, api.YInt64: {"-" + power(63), power(63)}, api.YInt8: {"-128", "128"}, api.YInt16: {"-32768", "32768"}, api.YInt32: {"-2147483648", "2147483648"}, api.YUint: {"0", power(64)}, api.YUint64: {"0", power(64)}, api.YUint8: {"0", "256"}, api.YUint16: {"0", "65536"}, api.YUint32: {"0", "4294967296"},
	} {
		low, high := val(c[0]), val(c[1])
		below, _ := Binary("-", low, val("1"), api.UInt)
		last, _ := Binary("-", high, val("1"), api.UInt)
		if show(Fits(low, basic)) != c[0] || show(Fits(high, basic)) != "error 02" || show(Fits(below, basic)) != "error 02" || !Like(first(Fits(last, basic)), last) {
			t.Error(basic)
		}
		if show(Fits(val("1/2"), basic)) != "error 02" || show(Fits(val("'a"), basic)) != "error 11" || show(Fits(val("true"), basic)) != "error 11" {
			t.Error(basic)
		}
	}
	for _, c := range []struct {
		v     string
		basic int
		want  string
	}{
		{power(500), api.UInt, power(500)}, {"-" + power(500), api.URune, "-" + power(500)}, {"1/2", api.UInt, "error 02"}, {"1/2", api.URune, "error 02"}, {"1/2", api.UFloat, "1/2"}, {"1/3", api.UFloat, "1/3"}, {"7", api.UFloat, "7"},
		{"true", api.YBool, "true"}, {"false", api.UBool, "false"}, {"true", api.YString, "error 11"}, {"'a", api.YString, `"a"`}, {"'a", api.UString, `"a"`}, {"'a", api.YBool, "error 11"}, {"1", api.UBool, "error 11"}, {"1", api.YString, "error 11"}, {"'a", api.YFloat64, "error 11"}, {"true", api.UFloat, "error 11"},
		{"1/3", api.YFloat64, "6004799503160661/18014398509481984"}, {"1/3", api.YFloat32, "11184811/33554432"}, {"16777217", api.YFloat32, "16777216"}, {"-16777219", api.YFloat32, "-16777220"}, {"1/2", api.YFloat32, "1/2"}, {"0", api.YFloat32, "0"}, {power(128), api.YFloat32, "error 02"}, {"1/" + power(151), api.YFloat32, "0"}, {"-1/" + power(151), api.YFloat32, "0"}, {power(511), api.YFloat64, power(511)}, {strings.Repeat("9", 154), api.YFloat64, "10000000000000000369475456880582265409809179829842688451922778552150543659347219597216513109705408327446511753687232667314337003349573404171046192448274432"},
		{"1/3" + strings.Repeat("0", 153), api.YFloat64, "error 02"},
	} {
		if got := show(Fits(val(c.v), c.basic)); got != c.want {
			t.Error(c, got)
		}
	}
}

func first(v api.Val, _ api.Errno) api.Val { return v }

func TestP15_3Unary(t *testing.T) {
	most := new(big.Int).Sub(new(big.Int).Lsh(big.NewInt(1), 512), big.NewInt(1)).String()
	for _, c := range []struct {
		op, v string
		basic int
		want  string
	}{
		{"!", "true", api.YBool, "false"}, {"!", "false", api.UBool, "true"}, {"!", "1", api.YBool, "error 11"}, {"!", "true", api.YInt, "error 11"}, {"!", "'a", api.YString, "error 11"},
		{"+", "3", api.YInt, "3"}, {"+", "1/3", api.UFloat, "1/3"}, {"+", "1/3", api.YFloat32, "11184811/33554432"}, {"+", "300", api.YUint8, "error 02"}, {"+", "'a", api.YString, "error 11"}, {"+", "1", api.YString, "error 11"}, {"+", "true", api.YInt, "error 11"},
		{"-", "3", api.YInt, "-3"}, {"-", "-128", api.YInt8, "error 02"}, {"-", "0", api.YUint8, "0"}, {"-", "1", api.YUint8, "error 02"}, {"-", "-1", api.YUint8, "1"}, {"-", "1/2", api.YInt, "error 02"}, {"-", "1/2", api.UFloat, "-1/2"}, {"-", "'a", api.YInt, "error 11"},
		{"^", "1", api.YUint8, "254"}, {"^", "0", api.YUint64, "18446744073709551615"}, {"^", "0", api.YUint, "18446744073709551615"}, {"^", "5", api.YUint16, "65530"}, {"^", "5", api.YUint32, "4294967290"}, {"^", "0", api.YInt, "-1"}, {"^", "-1", api.YInt8, "0"}, {"^", "127", api.YInt8, "-128"}, {"^", "7", api.UInt, "-8"}, {"^", "7", api.URune, "-8"}, {"^", "7", api.UFloat, "error 11"}, {"^", "7", api.YFloat64, "error 11"}, {"^", "1/2", api.YInt, "error 11"}, {"^", "300", api.YUint8, "error 02"}, {"^", "-1", api.YUint8, "error 02"}, {"^", "'a", api.YInt, "error 11"}, {"^", "128", api.YInt8, "error 02"}, {"^", "-" + most, api.UInt, "error 02"}, {"-", "-" + most, api.UInt, most},
		{"*", "1", api.YInt, "error 01"}, {"", "1", api.YInt, "error 01"}, {"&&", "true", api.YBool, "error 01"},
	} {
		if got := show(Unary(c.op, val(c.v), c.basic)); got != c.want {
			t.Error(c, got)
		}
	}
}

func TestP15_3Binary(t *testing.T) {
	many := strings.Repeat
	for _, c := range []struct {
		op, a, b string
		basic    int
		want     string
	}{
		{"&&", "true", "false", api.YBool, "false"}, {"&&", "true", "true", api.UBool, "true"}, {"||", "true", "false", api.YBool, "true"}, {"||", "false", "false", api.YBool, "false"}, {"&&", "true", "1", api.YBool, "error 11"}, {"||", "true", "true", api.YInt, "error 11"},
		{"+", "'ab", "'c", api.YString, `"abc"`}, {"+", "'", "'", api.UString, `""`}, {"+", "'" + many("a", 150), "'" + many("b", 50), api.YString, `"` + many("a", 150) + many("b", 50) + `"`}, {"+", "'" + many("a", 150), "'" + many("b", 51), api.YString, "error 07"}, {"+", "'a", "1", api.YString, "error 11"}, {"+", "'a", "'b", api.YInt, "error 11"}, {"-", "'a", "'b", api.YString, "error 11"}, {"+", "true", "true", api.YBool, "error 11"}, {"+", "'" + many("a", 150), "'" + many("b", 51), api.YInt, "error 11"},
		{"+", "1", "2", api.YInt, "3"}, {"+", "1/2", "1/3", api.UFloat, "5/6"}, {"+", "1/2", "1/2", api.YInt, "1"}, {"+", "1/2", "1/3", api.YInt, "error 02"}, {"+", "127", "1", api.YInt8, "error 02"}, {"-", "1", "2", api.YUint, "error 02"}, {"-", "1", "2", api.UInt, "-1"}, {"*", "16", "16", api.YUint8, "error 02"}, {"*", power(300), power(300), api.UInt, "error 02"}, {"+", "1", "2", api.YString, "error 11"}, {"+", "1", "true", api.YInt, "error 11"},
		{"/", "-7", "2", api.YInt, "-3"}, {"/", "-7", "2", api.UInt, "-3"}, {"/", "-7", "2", api.URune, "-3"}, {"/", "-7", "2", api.UFloat, "-7/2"}, {"/", "1", "3", api.YFloat32, "11184811/33554432"}, {"/", "1", "0", api.YInt, "error 04"}, {"/", "1", "0", api.UFloat, "error 04"}, {"/", "1", "0", api.YString, "error 11"}, {"/", "-128", "-1", api.YInt8, "error 02"}, {"/", "7/2", "1/2", api.YInt, "7"}, {"/", "1/" + power(300), power(300), api.UFloat, "error 02"},
		{"%", "7", "3", api.YInt, "1"}, {"%", "-7", "3", api.YInt, "-1"}, {"%", "7", "-3", api.UInt, "1"}, {"%", "7", "0", api.YInt, "error 04"}, {"%", "7", "3", api.UFloat, "error 11"}, {"%", "7", "3", api.YFloat64, "error 11"}, {"%", "7/2", "3", api.YInt, "error 11"}, {"%", power(511), "3", api.UInt, "2"}, {"%", power(511), "2", api.UInt, "error 02"}, {"-", power(511), power(511), api.UInt, "error 02"}, {"+", power(511), "-" + power(511), api.UFloat, "error 02"}, {"%", "'a", "'b", api.YString, "error 11"}, {"%", "7", "0", api.UFloat, "error 11"},
		{"&", "12", "10", api.YInt, "8"}, {"|", "12", "10", api.YInt, "14"}, {"^", "12", "10", api.YInt, "6"}, {"^", "12", "12", api.UInt, "0"}, {"&", power(200), "1", api.UInt, "0"}, {"|", power(64), "1", api.UInt, "18446744073709551617"}, {"|", power(64), "1", api.YUint64, "error 02"}, {"&", "-1", "1", api.YInt, "error 02"}, {"|", "1", "-1", api.UInt, "error 02"}, {"^", "-1", "-1", api.YInt, "error 02"}, {"&", "1", "1", api.UFloat, "error 11"}, {"&", "1/2", "1", api.YInt, "error 11"}, {"&", "-1", "1", api.YFloat32, "error 11"}, {"|", "true", "true", api.YBool, "error 11"}, {"|", "256", "1", api.YUint8, "error 02"}, {"&", "257", "1", api.YUint8, "1"},
		{"!", "true", "true", api.YBool, "error 01"}, {"<<", "1", "1", api.YInt, "error 01"}, {"==", "1", "1", api.YInt, "error 01"}, {"", "1", "1", api.YInt, "error 01"}, {"&^", "1", "1", api.YInt, "error 01"},
	} {
		if got := show(Binary(c.op, val(c.a), val(c.b), c.basic)); got != c.want {
			t.Error(c, got)
		}
	}
}

func TestP15_4(t *testing.T) {
	for _, c := range []struct {
		op, a, b string
		basic    int
		want     string
	}{
		{"<<", "1", "3", api.YInt, "8"}, {"<<", "-3", "2", api.YInt, "-12"}, {"<<", "1", "63", api.YInt, "error 02"}, {"<<", "1", "63", api.YUint, power(63)}, {"<<", "-1", "63", api.YInt, "-" + power(63)}, {"<<", "1", "511", api.UInt, power(511)}, {"<<", "1", "512", api.UInt, "error 02"}, {"<<", "0", "512", api.UInt, "0"}, {"<<", "0", "513", api.UInt, "error 02"}, {"<<", "0", power(300), api.UInt, "error 02"}, {"<<", "1", "-1", api.UInt, "error 02"}, {"<<", "1", "0", api.UInt, "1"}, {"<<", "5", "1", api.URune, "10"},
		{">>", "-1", "1", api.YInt, "-1"}, {">>", "-1", "512", api.YInt, "-1"}, {">>", "-1", "513", api.YInt, "error 02"}, {">>", "-4", "1", api.YInt, "-2"}, {">>", "-5", "1", api.YInt, "-3"}, {">>", "5", "1", api.YInt, "2"}, {">>", "-5", "0", api.YInt, "-5"}, {">>", power(511), "511", api.UInt, "1"}, {">>", "5", "512", api.UInt, "0"}, {">>", "1024", "3", api.YUint8, "128"}, {">>", "1024", "2", api.YUint8, "error 02"}, {">>", "0", "5", api.YInt8, "0"}, {">>", "1", "-1", api.UInt, "error 02"},
		{"<<", "1", "1", api.YFloat64, "error 11"}, {"<<", "1", "1", api.UFloat, "error 11"}, {"<<", "1/2", "1", api.UInt, "error 11"}, {"<<", "1", "1/2", api.UInt, "error 11"}, {"<<", "1", "'a", api.UInt, "error 11"}, {"<<", "true", "1", api.UInt, "error 11"}, {"<<", "1", "-1", api.YString, "error 11"}, {"<", "1", "1", api.YInt, "error 01"}, {"", "'a", "1", api.YInt, "error 01"},
	} {
		if got := show(Shift(c.op, val(c.a), val(c.b), c.basic)); got != c.want {
			t.Error(c, got)
		}
	}
}

func TestP15_4Compare(t *testing.T) {
	values := []string{"'", "'A", "'a", "'a\xff", "'ab", "-3", "-1/2", "0", "1/3", "1/2", "2", "true", "false"}
	for i, x := range values {
		for k, y := range values {
			a, b := val(x), val(y)
			for n, op := range []string{"==", "!=", "<", "<=", ">", ">="} {
				so, e := Compare(op, a, b)
				if a.Kind != b.Kind || a.Kind == api.VBool && n > 1 {
					if so || e != api.ErrType {
						t.Error(x, op, y, so, e)
					}
					continue
				}
				less := i < k
				if x == "'a\xff" && y == "'ab" {
					less = false
				}
				if x == "'ab" && y == "'a\xff" {
					less = true
				}
				want := []bool{i == k, i != k, less, less || i == k, !less && i != k, !less}[n]
				if so != want || e != api.OK {
					t.Error(x, op, y, so, e)
				}
			}
			for _, op := range []string{"", "=", "<>", "+"} {
				if so, e := Compare(op, a, b); so || e != api.ErrArg {
					t.Error(x, op, y, so, e)
				}
			}
		}
	}
	big, small := val(power(300)), val("1/"+power(300))
	for _, op := range []string{"==", "!=", "<", "<=", ">", ">="} {
		if so, e := Compare(op, big, small); so || e != api.ErrOver {
			t.Error(op, so, e)
		}
	}
	if so, e := Compare("?", big, small); so || e != api.ErrArg {
		t.Error(so, e)
	}
}

// TestLikeGo: what comes of whole numbers is what the library's constants come to.
func TestLikeGo(t *testing.T) {
	r := rand.New(rand.NewSource(1))
	ops := map[string]token.Token{"+": token.ADD, "-": token.SUB, "*": token.MUL, "/": token.QUO_ASSIGN, "%": token.REM, "&": token.AND, "|": token.OR, "^": token.XOR}
	for range 4000 {
		x, y := r.Int63n(1<<uint(1+r.Intn(40)))-r.Int63n(1<<20), r.Int63n(1<<uint(1+r.Intn(40)))-r.Int63n(1<<20)
		a, b := val(big.NewInt(x).String()), val(big.NewInt(y).String())
		for op, tok := range ops {
			if y == 0 && (op == "/" || op == "%") || (x < 0 || y < 0) && strings.Contains("&|^", op) {
				continue
			}
			want := constant.BinaryOp(constant.MakeInt64(x), tok, constant.MakeInt64(y))
			v, e := Binary(op, a, b, api.UInt)
			if show(v, e) != want.ExactString() {
				t.Fatal(x, op, y, show(v, e), want)
			}
			if n, ok := constant.Int64Val(want); ok {
				if f, e := Binary(op, a, b, api.YInt32); (e == api.OK) != (n >= math.MinInt32 && n <= math.MaxInt32) || e == api.OK && !Like(f, v) {
					t.Fatal(x, op, y, e)
				}
			}
		}
		by := r.Intn(60)
		want := constant.Shift(constant.MakeInt64(x), token.SHR, uint(by))
		if got := show(Shift(">>", a, val(big.NewInt(int64(by)).String()), api.UInt)); got != want.ExactString() {
			t.Fatal(x, by, got)
		}
	}
}

func TestP15_5(t *testing.T) {
	r := rand.New(rand.NewSource(2))
	vals := []string{"0", "1", "-1", "2", "7", "-7", "100", "127", "128", "255", "256", "1/2", "-3/7", "65535", power(31), power(63), power(64), "'a", "'bc", "true", "false", power(200)}
	for range 20000 {
		a, b := val(vals[r.Intn(len(vals))]), val(vals[r.Intn(len(vals))])
		basic := r.Intn(19)
		op := []string{"+", "-", "*", "/", "%", "&", "|", "^", "&&", "||"}[r.Intn(10)]
		v, e := Binary(op, a, b, basic)
		switch r.Intn(3) {
		case 0:
			v, e = Unary([]string{"!", "+", "-", "^"}[r.Intn(4)], a, basic)
		case 1:
			v, e = Shift([]string{"<<", ">>"}[r.Intn(2)], a, b, basic)
		}
		if e != api.OK {
			continue
		}
		if w, e := Fits(v, basic); e != api.OK || !Like(v, w) {
			t.Fatal(op, a, b, basic, v, w, e)
		}
		q, e := Binary("/", a, b, api.UInt)
		left, e1 := Binary("%", a, b, api.UInt)
		if e == api.OK && e1 == api.OK {
			p, _ := Binary("*", q, b, api.UInt)
			if s, _ := Binary("+", p, left, api.UInt); !Like(s, a) {
				t.Fatal(a, b, q, left)
			}
		}
	}
}

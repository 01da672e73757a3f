package lit

import (
	"go/constant"
	"go/token"
	"math/big"
	"math/rand"
	"strconv"
	"strings"
	"testing"
	"unicode/utf8"

	"indenture/api"
	"indenture/nat"
	"indenture/rat"
)

var nines = strings.Repeat("9", 150)

func TestP6(t *testing.T) {
	// What all calls tell first.
	for s, want := range map[string]api.Errno{
		strings.Repeat("1", 4001):          api.ErrMany,
		"\x00" + strings.Repeat("1", 4000): api.ErrMany,
		"1\x00":                            api.ErrByte,
		"\"\xff\"":                         api.ErrByte,
		"'\x00'":                           api.ErrByte,
		strings.Repeat("1", 3999) + "\xc3": api.ErrByte,
	} {
		if n, e := Int(s); n != nil || e != want {
			t.Errorf("%q %d", s, e)
		}
		if r, e := Float(s); !rat.Like(r, api.Rat{}) || e != want {
			t.Errorf("%q %d", s, e)
		}
		if r, e := Rune(s); r != 0 || e != want {
			t.Errorf("%q %d", s, e)
		}
		if r, e := Text(s); r != "" || e != want {
			t.Errorf("%q %d", s, e)
		}
	}
}

func TestP6_1(t *testing.T) {
	for s, want := range map[string]uint64{"0": 0, "7": 7, "1_000": 1000, "0x1F": 31, "0X_a_b": 171, "0b101": 5, "0B_1": 1, "0o17": 15, "0O_7_7": 63, "0x0": 0, "0b0_0": 0, "18446744073709551615": 1<<64 - 1} {
		n, e := Int(s)
		if c, _ := nat.Cmp(n, nat.Of(want)); c != 0 || e != api.OK {
			t.Error(s, n, e)
		}
	}
	for _, s := range []string{"", "00", "01", "0_1", "_1", "1_", "1__0", "0x", "0x_", "0x__1", "0x1_", "0b2", "0o8", "0xg", "a", "-1", "+1", " 1", "1.0", "1e3", "0_x1", "08", "1a", "0b", "0o_", "'a'"} {
		if n, e := Int(s); n != nil || e != api.ErrSyntax {
			t.Error(s, n, e)
		}
	}
	over := new(big.Int).Lsh(big.NewInt(1), 512)
	for _, c := range []struct {
		s string
		e api.Errno
	}{
		{nines, api.OK},
		{nines + "9", api.ErrMany},
		{nines + "_", api.ErrSyntax},
		{strings.Repeat("1", 3999) + "x", api.ErrSyntax},
		{strings.Repeat("1_", 74) + "11", api.OK},
		{strings.Repeat("1_", 75) + "1", api.ErrMany},
		{"0x" + over.Text(16), api.ErrOver},
		{"0x" + strings.Repeat("f", 128), api.OK},
		{"0x" + strings.Repeat("0", 148), api.OK},
		{"0x" + strings.Repeat("0", 149), api.ErrMany},
		{"0o1" + strings.Repeat("0", 147), api.OK},
	} {
		if n, e := Int(c.s); e != c.e || e != api.OK && n != nil {
			t.Error(c, n, e)
		}
	}
}

func TestP6_2(t *testing.T) {
	for s, want := range map[string]string{
		"1.5e2": "150", "0.5": "1/2", ".5": "1/2", "5.": "5", "1e0": "1", "1E+2": "100", "25e-1": "5/2", "1.e1": "10", ".5e1": "5", "00.50": "1/2", "1_0.2_5": "41/4", "1e1_0": "10000000000", "0e5": "0", "007e0": "7", "0.0": "0", "1_2e1": "120",
	} {
		r, e := Float(s)
		if got, _ := rat.Text(r); got != want || e != api.OK {
			t.Error(s, got, e)
		}
	}
	for _, s := range []string{"", "1", ".", "e1", ".e1", "1e", "1e+", "1e1.0", "1.2.3", "_1.0", "1_.0", "1._0", "1.0_", "1e_1", "1e1_", "0x1.8", "0x1p1", "1 .0", "-1.0", "1.0f", "1__0.0", "1e--1", "1ee1", "1e1e1", "0b1.0", "0xe1"} {
		if r, e := Float(s); !rat.Like(r, api.Rat{}) || e != api.ErrSyntax {
			t.Error(s, r, e)
		}
	}
	zeros := strings.Repeat("0", 140)
	for _, c := range []struct {
		s string
		e api.Errno
	}{
		{"1e150", api.OK},
		{"1e-150", api.OK},
		{"1e151", api.ErrOver},
		{"1e-151", api.ErrOver},
		{"0e151", api.ErrOver},
		{"1e0000000000000000000000000000150", api.OK},
		{"1e99999999999999999999999999999999", api.ErrOver},
		{"10000e150", api.OK},
		{"13407e150", api.OK},
		{"13408e150", api.ErrOver},
		{"0.0000e-150", api.OK},
		{"0.00000e-150", api.ErrOver},
		{"1." + zeros + "e-14", api.OK},
		{"1." + zeros + "e-15", api.ErrOver},
		{"." + zeros + "e140", api.OK},
		{nines[:149] + ".", api.OK},
		{nines + ".", api.ErrMany},
		{nines + "e1000", api.ErrMany},
		{nines + "e", api.ErrSyntax},
		{nines[:146] + "e151", api.ErrOver},
		{nines[:146] + "e150", api.ErrOver},
		{nines[:140] + "e15", api.ErrOver},
		{nines[:140] + "e14", api.OK},
	} {
		if r, e := Float(c.s); e != c.e || (e != api.OK && !rat.Like(r, api.Rat{})) || e == api.OK && !rat.Right(r) {
			t.Error(c, r, e)
		}
	}
}

// TestLikeGo: of random texts the answers are those of the library, as far as it takes the same ones.
func TestLikeGo(t *testing.T) {
	r := rand.New(rand.NewSource(1))
	ints, floats := 0, 0
	for range 40000 {
		s := ""
		for range 1 + r.Intn(7) {
			s += string("0011234579_.eE+-xbo"[r.Intn(19)])
		}
		if s[0] == '+' || s[0] == '-' {
			continue // the library takes a sign
		}
		n, e := Int(s)
		v := constant.MakeFromLiteral(s, token.INT, 0)
		if old := len(s) > 1 && s[0] == '0' && !strings.ContainsAny(s[1:2], "xboXBO"); old {
			v = constant.MakeUnknown()
		}
		if (v.Kind() == constant.Int) != (e == api.OK) {
			t.Fatal(s, e)
		}
		if e == api.OK {
			ints++
			if text, _ := nat.Text(n); text != v.ExactString() {
				t.Fatal(s, text)
			}
		}
		q, e := Float(s)
		if e == api.ErrOver {
			continue
		}
		v = constant.MakeFromLiteral(s, token.FLOAT, 0)
		known := v.Kind() != constant.Unknown && !strings.ContainsAny(s, "xXbo") && strings.ContainsAny(s, ".eE")
		if known != (e == api.OK) {
			t.Fatal(s, e, v)
		}
		if e == api.OK {
			floats++
			if text, _ := rat.Text(q); text != v.ExactString() {
				t.Fatal(s, text, v.ExactString())
			}
		}
	}
	if ints < 100 || floats < 100 {
		t.Error(ints, floats)
	}
}

func TestP6_3Rune(t *testing.T) {
	for s, want := range map[string]rune{
		"'a'": 'a', "'é'": 'é', "'𝄞'": '𝄞', `'"'`: '"', "'`'": '`', `'\''`: '\'', `'\\'`: '\\', `'\a'`: 7, `'\b'`: 8, `'\f'`: 12, `'\n'`: 10, `'\r'`: 13, `'\t'`: 9, `'\v'`: 11, `'\x41'`: 65, `'\xfF'`: 255, `'\000'`: 0, `'\377'`: 255, `'\u00e9'`: 233, `'\U0010FFFF'`: 0x10ffff, `'\ud7ff'`: 0xd7ff, `'\uE000'`: 0xe000, `'\u0000'`: 0, "'\r'": 13, "'\t'": 9, "'\ufffd'": 0xfffd,
	} {
		if r, e := Rune(s); r != want || e != api.OK {
			t.Error(s, r, e)
		}
	}
	for _, s := range []string{"", "'", "''", "'''", "'\n'", "'ab'", "a", "'a", "a'", `'\'`, `'\"'`, `'\z'`, `'\400'`, `'\08'`, `'\0'`, `'\00'`, `'\0000'`, `'\x4'`, `'\x411'`, `'\xg1'`, `'\u123'`, `'\ud800'`, `'\udfff'`, `'\U00110000'`, `'\UFFFFFFFF'`, `'\U0000004'`, `"a"`, "`a`", `'\X41'`, `'\é'`, `'\1é'`, "'\\\n'"} {
		if r, e := Rune(s); r != 0 || e != api.ErrSyntax {
			t.Error(s, r, e)
		}
	}
}

func TestP6_3Text(t *testing.T) {
	for s, want := range map[string]string{
		`""`: "", "``": "", `"a"`: "a", `"'"`: "'", `"\""`: "\"", `"\\"`: "\\", `"\xe9\u00e9\351"`: "\xe9\u00e9\xe9", `"\a\b\f\n\r\t\v"`: "\a\b\f\n\r\t\v", "\"`\"": "`", "`\\n\"'`": "\\n\"'", "`a\n\r\nb\r`": "a\n\nb", "\"\r\"": "\r", `"\U0001d11e"`: "𝄞", `"é\000"`: "é\x00",
	} {
		if r, e := Text(s); r != want || e != api.OK {
			t.Errorf("%s %q %d", s, r, e)
		}
	}
	for _, s := range []string{"", `"`, "`", "\"\n\"", `"a`, `a"`, `"a"b"`, `"\"`, `"\'"`, "`a`b`", "`\"", "\"`", `"\x4"`, `"\u12"`, `"\ud800"`, `"\400"`, `"\8"`, `"\1"`, `"\`, "'a'", "'a`"} {
		if r, e := Text(s); r != "" || e != api.ErrSyntax {
			t.Errorf("%s %q %d", s, r, e)
		}
	}
}

// TestQuotedLikeGo: of random texts between quotes the answers are those of the library.
func TestQuotedLikeGo(t *testing.T) {
	rnd := rand.New(rand.NewSource(2))
	pieces := []string{"a", "é", "\\", "\\x4", "1", "7", "\\u00", "\\U000", "f", "\"", "'", "\\n", "\\1", "\n", "`", "0", "d8", "\\'", "\\\""}
	for range 40000 {
		inner := ""
		for range rnd.Intn(5) {
			inner += pieces[rnd.Intn(len(pieces))]
		}
		want, err := strconv.Unquote("\"" + inner + "\"")
		if got, e := Text("\"" + inner + "\""); (e == api.OK) != (err == nil) || got != want && err == nil {
			t.Fatalf("%q %q %d", inner, got, e)
		}
		if inner == "" {
			continue // the library takes it
		}
		want, err = strconv.Unquote("'" + inner + "'")
		got, e := Rune("'" + inner + "'")
		if r, _ := utf8.DecodeRuneInString(want); (e == api.OK) != (err == nil) || got != r && err == nil {
			t.Fatalf("%q %q %d", inner, got, e)
		}
	}
}

func TestP6_4(t *testing.T) {
	r := rand.New(rand.NewSource(3))
	for range 500 {
		n := api.Nat{}
		for range r.Intn(15) {
			n = append(n, r.Uint32()|1)
		}
		s, _ := nat.Text(n)
		m, e := Int(s)
		if c, _ := nat.Cmp(n, m); c != 0 || e != api.OK {
			t.Fatal(s, m, e)
		}
	}
	plain := ""
	for c := byte(32); c < 127; c++ {
		if c != '"' && c != '\\' {
			plain += string(c)
		}
	}
	long := strings.Repeat(plain, 50)[:3998]
	for _, s := range []string{"", plain, long} {
		if got, e := Text("\"" + s + "\""); got != s || e != api.OK {
			t.Error(s, got, e)
		}
	}
	if got, e := Text("\"" + long + "x\""); got != "" || e != api.ErrMany {
		t.Error(got, e)
	}
}

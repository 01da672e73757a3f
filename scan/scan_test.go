package scan

import (
	goscanner "go/scanner"
	gotoken "go/token"
	"math/rand"
	"slices"
	"strconv"
	"strings"
	"testing"

	"indenture/api"
)

const allKeys = "break case chan const continue default defer else fallthrough for func go goto if import interface map package range return select struct switch type var"

const allOps = "+ - * / % & | ^ << >> && || == != < <= > >= ! ( ) [ ] { } , . ; = := : ~ ..."

// show writes tokens: a letter of each kind, its text, its place.
func show(l []api.Tok) string {
	s := ""
	for _, t := range l {
		s += string("ENIFRSOK"[t.Kind]) + strconv.Quote(t.Text) + strconv.Itoa(t.At) + " "
	}
	return strings.TrimSpace(s)
}

func TestP5_1(t *testing.T) {
	for _, s := range strings.Fields(allKeys) {
		if !Key(s) || Op(s) || Key(s+"x") || Key(strings.ToUpper(s)) || Key(s[1:]) {
			t.Error(s)
		}
	}
	for _, s := range strings.Fields(allOps) {
		if !Op(s) || Key(s) {
			t.Error(s)
		}
	}
	for _, s := range []string{"", " ", "..", "++", "--", "&^", "<-", "+=", "true", "int", "\n", "a", "===", "$"} {
		if Op(s) || Key(s) {
			t.Error(s)
		}
	}
}

func TestP5_2(t *testing.T) {
	for s, want := range map[string]string{
		"":                     `E""0`,
		" \t\r\n":              `E""4`,
		"x := 1\n":             `N"x"0 O":="2 I"1"5 O"\n"6 E""7`,
		"x":                    `N"x"0 O"\n"1 E""1`,
		"return":               `K"return"0 O"\n"6 E""6`,
		"break\n":              `K"break"0 E""6`,
		"func\n)]}":            `K"func"0 O")"5 O"]"6 O"}"7 O"\n"8 E""8`,
		")\n]\n}\n\n":          `O")"0 O"\n"1 O"]"2 O"\n"3 O"}"4 O"\n"5 E""7`,
		"(\n[\n{\n,\n;\n+\n":   `O"("0 O"["2 O"{"4 O","6 O";"8 O"+"10 E""12`,
		"1\n1.\n'a'\n\"\"\n``": `I"1"0 O"\n"1 F"1."2 O"\n"4 R"'a'"5 O"\n"8 S"\"\""9 O"\n"11 S"` + "``" + `"12 O"\n"14 E""14`,
		"a//b\nc":              `N"a"0 O"\n"4 N"c"5 O"\n"6 E""6`,
		"a//b":                 `N"a"0 O"\n"4 E""4`,
		"a/*b*/c":              `N"a"0 N"c"6 O"\n"7 E""7`,
		"a/*b\n*/c":            `N"a"0 O"\n"1 N"c"7 O"\n"8 E""8`,
		"a /*\n\n*/ /*\n*/":    `N"a"0 O"\n"2 E""14`,
		"a/*b*/\n":             `N"a"0 O"\n"6 E""7`,
		"a/***/b":              `N"a"0 N"b"6 O"\n"7 E""7`,
		"//\x01é\n/*é*/":       `E""12`,
		"a / b":                `N"a"0 O"/"2 N"b"4 O"\n"5 E""5`,
		"....5..":              `O"..."0 F".5.."3 O"\n"7 E""7`,
		"..5":                  `O"."0 F".5"1 O"\n"3 E""3`,
		"x.5":                  `N"x"0 F".5"1 O"\n"3 E""3`,
		"x.y":                  `N"x"0 O"."1 N"y"2 O"\n"3 E""3`,
		"1e+5-2":               `F"1e+5"0 O"-"4 I"2"5 O"\n"6 E""6`,
		"1E-5+e+1":             `F"1E-5"0 O"+"4 N"e"5 O"+"6 I"1"7 O"\n"8 E""8`,
		"0x1e+5":               `I"0x1e"0 O"+"4 I"5"5 O"\n"6 E""6`,
		"0X1.e-5":              `I"0X1.e"0 O"-"5 I"5"6 O"\n"7 E""7`,
		"0b1e+5":               `I"0b1e+5"0 O"\n"6 E""6`,
		"0O1.5":                `I"0O1.5"0 O"\n"5 E""5`,
		"00.5_a":               `F"00.5_a"0 O"\n"6 E""6`,
		"12ab":                 `I"12ab"0 O"\n"4 E""4`,
		"<<=>>===!=!<=:=::":    `O"<<"0 O"="2 O">>"3 O"=="5 O"="7 O"!="8 O"!"10 O"<="11 O":="13 O":"15 O":"16 E""17`,
		"&&&||||^~%":           `O"&&"0 O"&"2 O"||"3 O"||"5 O"^"7 O"~"8 O"%"9 E""10`,
		`'\''"\"\\""'"`:        `R"'\\''"0 S"\"\\\"\\\\\""4 S"\"'\""10 O"\n"13 E""13`,
		"`\\\n\"`":             `S"` + "`\\\\\\n\\\"`" + `"0 O"\n"5 E""5`,
		"'ab'":                 `R"'ab'"0 O"\n"4 E""4`,
		"_x9 func1":            `N"_x9"0 N"func1"4 O"\n"9 E""9`,
	} {
		l, at, e := Scan(s)
		if show(l) != want || at != 0 || e != api.OK {
			t.Errorf("%q: %s %d %d", s, show(l), at, e)
		}
	}
}

func TestP5_2Wrong(t *testing.T) {
	for _, c := range []struct {
		s  string
		at int
		e  api.Errno
	}{
		{"a\x00", 1, api.ErrByte},
		{"\" \xff", 2, api.ErrByte},
		{strings.Repeat(" ", 4001), 0, api.ErrMany},
		{"$" + strings.Repeat(" ", 4000), 0, api.ErrMany},
		{"a $", 2, api.ErrByte},
		{"a é", 2, api.ErrByte},
		{"a\v", 1, api.ErrByte},
		{"# \"", 0, api.ErrByte},
		{"\" #", 0, api.ErrSyntax},
		{" 'a", 1, api.ErrSyntax},
		{" 'a\n'", 1, api.ErrSyntax},
		{"'\\\n'", 0, api.ErrSyntax},
		{"'\\'", 0, api.ErrSyntax},
		{"'\\", 0, api.ErrSyntax},
		{"a `b\n", 2, api.ErrSyntax},
		{"a /*/", 2, api.ErrSyntax},
		{"a /* *", 2, api.ErrSyntax},
		{"a " + strings.Repeat("b", 21) + " $", 2, api.ErrMany},
		{"$ " + strings.Repeat("b", 21), 0, api.ErrByte},
		{strings.Repeat("+", 1500), 0, api.ErrMany},
		{strings.Repeat("a ", 1499), 0, api.ErrMany},
		{strings.Repeat("+", 2000) + "$", 2000, api.ErrByte},
		{strings.Repeat("+ ", 1000) + strings.Repeat("a", 30), 2000, api.ErrMany},
	} {
		if l, at, e := Scan(c.s); l != nil || at != c.at || e != c.e {
			t.Errorf("%q: %s %d %d", c.s, show(l), at, e)
		}
	}
	for _, s := range []string{strings.Repeat("+", 1499), strings.Repeat("a ", 1498), strings.Repeat("b", 20)} {
		if l, _, e := Scan(s); l == nil || e != api.OK {
			t.Errorf("%q: %d", s, e)
		}
	}
}

// pieces are of what random texts are made.
var pieces = []string{"a", "b1", "0", "17", "1.5", ".5", "1e", "+", "-", "e", "x", "0x", "'", "\"", "\\", "`", "/", "*", "\n", " ", ".", "<", "=", "!", "&", "|", ":", "return", "func", "(", ")", "_", ";", "{", "}", "]", "$"}

func random(r *rand.Rand) string {
	s := ""
	for range r.Intn(12) {
		s += pieces[r.Intn(len(pieces))]
	}
	return s
}

func TestP5_3(t *testing.T) {
	r := rand.New(rand.NewSource(1))
	for range 30000 {
		s := random(r)
		l, _, e := Scan(s)
		m, _, e1 := Scan(s)
		if e != e1 || !slices.Equal(l, m) {
			t.Fatalf("%q twice", s)
		}
		if e != api.OK {
			continue
		}
		at := 0
		for i, k := range l {
			if k.At < at || k.Text != "\n" && s[k.At:k.At+len(k.Text)] != k.Text {
				t.Fatalf("%q %d", s, i)
			}
			at = k.At
		}
		spaced(t, s, l)
	}
}

// spaced scans a text again, with blanks and comments between its tokens.
func spaced(t *testing.T, s string, l []api.Tok) {
	t.Helper()
	wide, at := "", 0
	for _, k := range l {
		if k.Text == "\n" || k.Kind == api.TEnd {
			continue
		}
		wide += s[at:k.At] + " /* c */\t" + k.Text + " "
		at = k.At + len(k.Text)
	}
	m, _, e := Scan(wide + s[at:])
	if e != api.OK || len(m) != len(l) {
		t.Fatalf("%q: %s %d", wide, show(m), e)
	}
	for i := range l {
		if l[i].Kind != m[i].Kind || l[i].Text != m[i].Text {
			t.Fatalf("%q: %s", wide, show(m))
		}
	}
}

// TestLikeGo: of texts that the library's scanner of Go takes, the tokens' texts are the same, but for operators that are none here.
func TestLikeGo(t *testing.T) {
	r := rand.New(rand.NewSource(2))
	taken := 0
	for range 30000 {
		s := strings.ReplaceAll(random(r), "$", "")
		l, _, e := Scan(s)
		want, ok := byGo(s)
		if !ok || e != api.OK {
			continue
		}
		taken++
		var got []string
		for _, k := range l[:len(l)-1] {
			got = append(got, k.Text)
		}
		if !slices.Equal(got, want) {
			t.Fatalf("%q: %q %q", s, got, want)
		}
	}
	if taken < 1000 {
		t.Error("too few texts", taken)
	}
}

func byGo(s string) ([]string, bool) {
	var g goscanner.Scanner
	set := gotoken.NewFileSet()
	g.Init(set.AddFile("", -1, len(s)), []byte(s), nil, 0)
	var l []string
	for {
		at, k, text := g.Scan()
		end := int(at) - 1 + len(text)
		switch {
		case k == gotoken.EOF:
			return l, g.ErrorCount == 0
		case k == gotoken.SEMICOLON:
		case k.IsOperator():
			text = k.String()
			if !Op(text) {
				return nil, false
			}
		case (k == gotoken.INT || k == gotoken.FLOAT) && strings.ContainsAny(s[end:min(end+1, len(s))], "abcdefghijklmnopqrstuvwxyz_.0123456789"):
			return nil, false // here that belongs to the number
		case k == gotoken.IMAG, k == gotoken.BREAK, k == gotoken.CONTINUE, k == gotoken.FALLTHROUGH:
			return nil, false
		}
		l = append(l, text)
	}
}

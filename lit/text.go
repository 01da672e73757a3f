package lit

import (
	"strings"
	"unicode/utf8"

	"indenture/api"
	"indenture/src"
)

// piece is what stands between quotes at one place: what it stands for, whether that is a plain byte and no letter, and how many bytes it has.
type piece struct {
	value rune
	plain bool
	size  int
}

// first is the piece that a text between quotes begins with, if that is right.
func first(s string, quote byte) (piece, bool) {
	if s == "" || s[0] == '\n' || s[0] == quote {
		return piece{}, false
	}
	if s[0] == '\\' {
		return escape(s[1:], quote)
	}
	r, n := utf8.DecodeRuneInString(s)
	return piece{value: r, size: n}, true
}

// escape is the piece of a \ and what stands behind it.
func escape(s string, quote byte) (piece, bool) {
	if s == "" {
		return piece{}, false
	}
	if s[0] == quote {
		return piece{rune(quote), true, 2}, true
	}
	short := map[byte]rune{'a': 7, 'b': 8, 'f': 12, 'n': 10, 'r': 13, 't': 9, 'v': 11, '\\': 92}
	if v, ok := short[s[0]]; ok {
		return piece{v, true, 2}, true
	}
	many := 0
	switch s[0] {
	case 'U':
		many += 4
		fallthrough
	case 'u':
		many += 2
		fallthrough
	case 'x':
		many += 2
		v, ok := number(s[1:], many, 16)
		plain := many == 2
		return piece{rune(v), plain, many + 2}, ok && (plain || letter(v))
	}
	v, ok := number(s, 3, 8)
	return piece{rune(v), true, 4}, ok && v <= 255
}

// number is what the first digits of a text tell, if there are so many.
func number(s string, many, base int) (int64, bool) {
	if len(s) < many {
		return 0, false
	}
	v := int64(0)
	for i := range many {
		d := digit(s[i])
		if d >= base {
			return 0, false
		}
		v = v*int64(base) + int64(d)
	}
	return v, true
}

// letter tells whether a number is a letter's.
func letter(v int64) bool {
	return v <= utf8.MaxRune && utf8.ValidRune(rune(v))
}

// between is what stands between two quotes of a literal, if it has these.
func between(s string, quote byte) (string, bool) {
	if len(s) < 2 || s[0] != quote || s[len(s)-1] != quote {
		return "", false
	}
	return s[1 : len(s)-1], true
}

// Rune is what a rune literal stands for.
func Rune(s string) (rune, api.Errno) {
	if _, e := src.Check(s); e != api.OK {
		return 0, e
	}
	inner, ok := between(s, '\'')
	if !ok {
		return 0, api.ErrSyntax
	}
	p, ok := first(inner, '\'')
	if !ok || p.size != len(inner) {
		return 0, api.ErrSyntax
	}
	return p.value, api.OK
}

// Text is what a text literal stands for.
func Text(s string) (string, api.Errno) {
	if _, e := src.Check(s); e != api.OK {
		return "", e
	}
	if inner, ok := between(s, '`'); ok && !strings.Contains(inner, "`") {
		return strings.ReplaceAll(inner, "\r", ""), api.OK
	}
	inner, ok := between(s, '"')
	if !ok {
		return "", api.ErrSyntax
	}
	told := make([]byte, 0, len(inner))
	for inner != "" {
		p, ok := first(inner, '"')
		if !ok {
			return "", api.ErrSyntax
		}
		if p.plain {
			told = append(told, byte(p.value))
		} else {
			told = utf8.AppendRune(told, p.value)
		}
		inner = inner[p.size:]
	}
	return string(told), api.OK
}

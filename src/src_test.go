package src

import (
	"math/rand"
	"strings"
	"testing"
	"unicode/utf8"

	"indenture/api"
)

// letters are bytes of which texts are made, whole letters and parts of them.
var letters = []string{"a", "\n", "\x00", "é", "\xc3", "\xa9", "€", "\xe2\x82", "\ufffd", "\xef\xbf", "𝄞", "\xf0\x9d", "\xc0\x80", "\xe0\x80\x80", "\xed\xa0\x80", "\xed\x9f\xbf", "\xee\x80\x80", "\xf4\x8f\xbf\xbf", "\xf4\x90\x80\x80", "\xff", "\x7f", "\x80"}

func text(r *rand.Rand, n int) string {
	s := ""
	for range r.Intn(n) {
		s += letters[r.Intn(len(letters))]
	}
	return s
}

// spoilt is where a text is spoilt, told a letter at a time.
func spoilt(s string) (int, bool) {
	for i := 0; i < len(s); {
		c, n := utf8.DecodeRuneInString(s[i:])
		if s[i] == 0 || c == utf8.RuneError && n == 1 {
			return i, true
		}
		i += n
	}
	return 0, false
}

func TestP4_1(t *testing.T) {
	for _, c := range []struct {
		s  string
		at int
		e  api.Errno
	}{
		{"", 0, api.OK},
		{"a\tb\r\nc\x01\x7f", 0, api.OK},
		{"\ufffd", 0, api.OK},
		{"a\x00", 1, api.ErrByte},
		{"\x80", 0, api.ErrByte},
		{"é\xc3", 2, api.ErrByte},
		{"€\xe2\x82a", 3, api.ErrByte},
		{"\xc0\x80", 0, api.ErrByte},
		{"\xed\xa0\x80", 0, api.ErrByte},
		{"\xed\x9f\xbf\xee\x80\x80\xf4\x8f\xbf\xbf", 0, api.OK},
		{"\xf4\x90\x80\x80", 0, api.ErrByte},
		{strings.Repeat("a", 4000), 0, api.OK},
		{strings.Repeat("a", 3999) + "\x00", 3999, api.ErrByte},
		{strings.Repeat("a", 4001), 0, api.ErrMany},
		{"\x00" + strings.Repeat("a", 4000), 0, api.ErrMany},
	} {
		if at, e := Check(c.s); at != c.at || e != c.e {
			t.Errorf("%q: %d %d", c.s, at, e)
		}
	}
	r := rand.New(rand.NewSource(1))
	for range 20000 {
		s := text(r, 8)
		at, e := Check(s)
		at1, bad := spoilt(s)
		if at != at1 || (e == api.ErrByte) != bad {
			t.Fatalf("%q: %d %d", s, at, e)
		}
	}
}

func TestP4_1Place(t *testing.T) {
	if l, c, e := Place("a\nbc", 3); l != 2 || c != 2 || e != api.OK {
		t.Error(l, c, e)
	}
	for _, c := range []struct {
		s            string
		at, line, in int
		e            api.Errno
	}{
		{"", 0, 1, 1, api.OK},
		{"a\nb", 1, 1, 2, api.OK},
		{"a\nb", 2, 2, 1, api.OK},
		{"a\nb", 3, 2, 2, api.OK},
		{"a\n", 2, 2, 1, api.OK},
		{"\n\n\n", 2, 3, 1, api.OK},
		{"é\x00z", 3, 1, 4, api.OK},
		{"a", -1, 0, 0, api.ErrArg},
		{"a", 2, 0, 0, api.ErrArg},
	} {
		if l, k, e := Place(c.s, c.at); l != c.line || k != c.in || e != c.e {
			t.Errorf("%q %d: %d %d %d", c.s, c.at, l, k, e)
		}
	}
	if l, c, e := Place(strings.Repeat("a\n", 5000), 9999); l != 5000 || c != 2 || e != api.OK {
		t.Error(l, c, e)
	}
}

func TestP4_2(t *testing.T) {
	for i := range 256 {
		c := byte(i)
		want := strings.IndexByte("abcdefghijklmnopqrstuvwxyzABCDEFGHIJKLMNOPQRSTUVWXYZ_", c) >= 0
		digit := '0' <= c && c <= '9'
		if Letter(c) != want || Name(string([]byte{c})) != want || Name(string([]byte{'x', c})) != (want || digit) {
			t.Error(c)
		}
		if Public(string([]byte{c, 'x'})) != ('A' <= c && c <= 'Z') {
			t.Error(c)
		}
	}
	for s, want := range map[string]bool{"": false, "_": true, "é": false, "a b": false, strings.Repeat("A", 20): true, strings.Repeat("A", 21): false, "func": true} {
		if Name(s) != want {
			t.Error(s)
		}
	}
	for s, want := range map[string]bool{"": false, "_A": false, "A": true, "A-": false, "aB": false, strings.Repeat("A", 20): true, strings.Repeat("A", 21): false, "Z9_": true} {
		if Public(s) != want {
			t.Error(s)
		}
	}
}

func TestP4_3(t *testing.T) {
	r := rand.New(rand.NewSource(2))
	for range 5000 {
		s, u := text(r, 6), text(r, 6)
		_, e := Check(s)
		_, e1 := Check(u)
		if e == api.OK && e1 == api.OK {
			if _, e := Check(s + u); e != api.OK {
				t.Fatalf("%q %q", s, u)
			}
		}
		for i := range s {
			if _, e1 := Check(s[:i]); e == api.OK && e1 != api.OK {
				t.Fatalf("%q %d", s, i)
			}
		}
		line, col := 0, 0
		for i := range len(s) + 1 {
			l, c, e := Place(s, i)
			if e != api.OK || l < line || l == line && c <= col {
				t.Fatalf("%q %d", s, i)
			}
			line, col = l, c
		}
	}
}

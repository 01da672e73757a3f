package report

import (
	"slices"
	"strconv"
	"strings"

	"indenture/api"
	"indenture/src"
)

// mostBase is how many bytes a base has at most; mostLines how many lines a file of a script.
const (
	mostBase  = 200
	mostLines = 200
)

// Words of files' heads, in the order in which they may stand.
const (
	oldWord = 1
	newWord = 2
)

// head is what a file's head tells: which sources', its package, and how many lines.
type head struct {
	word  int
	path  string
	lines int
}

// readHead is what a line tells, if it is a file's head.
func readHead(line string) (head, bool) {
	word, rest, _ := strings.Cut(line, " ")
	path, digits, _ := strings.Cut(rest, " ")
	h := head{map[string]int{"old": oldWord, "new": newWord}[word], path, 0}
	n, err := strconv.Atoi(digits)
	h.lines = n
	ok := err == nil && n >= 0 && n <= mostLines && strconv.Itoa(n) == digits
	return h, ok && h.word != 0 && src.Name(path)
}

// Parse reads a script: or the error, and the line's number.
func Parse(s string) (api.Script, api.Errno, int) {
	at := 0
	next := func() (string, bool) {
		at++
		line, rest, ended := strings.Cut(s, "\n")
		s = rest
		return line, ended
	}
	line, ended := next()
	base, ok := strings.CutPrefix(line, "base ")
	if !ended || !ok || len(base) > mostBase {
		return api.Script{}, api.ErrLine, at
	}
	x := api.Script{Base: base}
	last := head{word: oldWord}
	for s != "" {
		line, ended := next()
		h, ok := readHead(line)
		if !ended || !ok || h.word < last.word {
			return api.Script{}, api.ErrLine, at
		}
		var text strings.Builder
		for range h.lines {
			line, ended := next()
			if !ended {
				return api.Script{}, api.ErrLine, at
			}
			text.WriteString(line + "\n")
		}
		if h.word == oldWord {
			x.Old = behind(x.Old, h.path, text.String())
		} else {
			x.New = behind(x.New, h.path, text.String())
		}
		last = h
	}
	return x, api.OK, 0
}

// behind are sources with one file more, which is the last one's, if that has its path.
func behind(l []api.Source, path, text string) []api.Source {
	if n := len(l); n > 0 && l[n-1].Path == path {
		l[n-1].Files = append(l[n-1].Files, text)
		return l
	}
	return append(l, api.Source{Path: path, Files: []string{text}})
}

// printable tells whether a row of sources may be printed.
func printable(l []api.Source) bool {
	for i, s := range l {
		if !src.Name(s.Path) || len(s.Files) == 0 || i > 0 && s.Path == l[i-1].Path {
			return false
		}
		if slices.ContainsFunc(s.Files, func(f string) bool { return !whole(f) }) {
			return false
		}
	}
	return true
}

// whole tells whether a text is lines, each ended, and not too many.
func whole(text string) bool {
	return (text == "" || strings.HasSuffix(text, "\n")) && strings.Count(text, "\n") <= mostLines
}

// Print writes a script.
func Print(x api.Script) (string, api.Errno) {
	if strings.Contains(x.Base, "\n") || len(x.Base) > mostBase || !printable(x.Old) || !printable(x.New) {
		return "", api.ErrArg
	}
	var b strings.Builder
	b.WriteString("base " + x.Base + "\n")
	row := func(word string, l []api.Source) {
		for _, s := range l {
			for _, f := range s.Files {
				b.WriteString(word + " " + s.Path + " " + strconv.Itoa(strings.Count(f, "\n")) + "\n" + f)
			}
		}
	}
	row("old", x.Old)
	row("new", x.New)
	return b.String(), api.OK
}

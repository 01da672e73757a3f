package typ

import (
	"slices"
	"strings"

	"indenture/api"
	"indenture/src"
)

// mostLong is how many elements an array may have.
const mostLong = 1 << 31

// made tells whether a type is made right for those ahead of it.
func made(l []api.Type, t api.Type) bool {
	for _, k := range t.Kids {
		if k < 0 || k >= len(l) {
			return false
		}
	}
	switch t.Kind {
	case api.KPtr, api.KSlice:
		return bare(t) && len(t.Kids) == 1 && t.N == 0
	case api.KArray:
		return bare(t) && len(t.Kids) == 1 && t.N >= 0 && t.N <= mostLong
	case api.KMap:
		return bare(t) && len(t.Kids) == 2 && t.N == 0
	case api.KFunc:
		return bare(t) && len(t.Kids) <= api.MaxKids && (t.N == 0 || t.N == 1 && len(t.Kids) > 0)
	case api.KStruct:
		return structure(t)
	case api.KIface:
		return iface(l, t)
	case api.KNamed:
		return twoNames(t.Name) && len(t.Kids) <= api.MaxKids && t.N == 0 && len(t.Words) == 0
	case api.KParam:
		return bare(t) && len(t.Kids) == 0 && t.N >= 0 && t.N < api.MaxKids
	}
	return false
}

// bare tells whether a type has neither a name nor words.
func bare(t api.Type) bool { return t.Name == "" && len(t.Words) == 0 }

// twoNames tells whether a text is two names, with `.` between.
func twoNames(s string) bool {
	a, b, ok := strings.Cut(s, ".")
	return ok && src.Name(a) && src.Name(b)
}

func structure(t api.Type) bool {
	if t.Name != "" || t.N != 0 || len(t.Kids) > api.MaxKids || len(t.Words) != len(t.Kids) {
		return false
	}
	for i, w := range t.Words {
		name := strings.TrimPrefix(w, "+")
		if !src.Name(name) {
			return false
		}
		if name != "_" && slices.ContainsFunc(t.Words[:i], func(x string) bool { return strings.TrimPrefix(x, "+") == name }) {
			return false
		}
	}
	return true
}

// iface tells whether an interface is made right: first methods, by their names, then terms, by their kids.
func iface(l []api.Type, t api.Type) bool {
	if t.Name != "" || t.N < 0 || t.N > 3 || len(t.Kids) > api.MaxKids || len(t.Words) != len(t.Kids) {
		return false
	}
	terms := slices.IndexFunc(t.Words, func(w string) bool { return w == "=" || w == "~" })
	if terms < 0 {
		terms = len(t.Words)
	}
	for i := range terms {
		if !src.Name(t.Words[i]) || l[t.Kids[i]].Kind != api.KFunc || i > 0 && t.Words[i] <= t.Words[i-1] {
			return false
		}
	}
	for i := terms; i < len(t.Words); i++ {
		if t.Words[i] != "=" && t.Words[i] != "~" || !term(l, t.Kids[i]) || i > terms && t.Kids[i] <= t.Kids[i-1] {
			return false
		}
	}
	return t.N >= 2 || terms == len(t.Words)
}

// term tells whether a type may be one of a constraint's.
func term(l []api.Type, i int) bool {
	untyped := i >= api.UBool && i <= api.UNil
	return !untyped && l[i].Kind != api.KIface && l[i].Kind != api.KParam
}

package typ

import (
	"strconv"
	"strings"

	"indenture/api"
)

// Text is a type's text.
func Text(l []api.Type, i int) (string, api.Errno) {
	if !Right(l) {
		return "", api.ErrArg
	}
	if i < 0 || i >= len(l) {
		return "", api.ErrNone
	}
	needed := make([]bool, i+1)
	needed[i] = true
	for j := i; j >= 0; j-- {
		for _, k := range l[j].Kids {
			needed[k] = needed[k] || needed[j]
		}
	}
	texts := make([]string, i+1)
	for j, t := range l[:i+1] {
		if !needed[j] {
			continue
		}
		texts[j] = text(t, texts)
		// A text has those of all kids in it, so none that they are in is less long.
		if len(texts[j]) > api.MaxFile {
			return "", api.ErrMany
		}
	}
	return texts[i], api.OK
}

// text is a type's text, told those of the types ahead of it.
func text(t api.Type, texts []string) string {
	kids := make([]string, len(t.Kids))
	for i, k := range t.Kids {
		kids[i] = texts[k]
	}
	switch t.Kind {
	case api.KPtr:
		return "*" + kids[0]
	case api.KSlice:
		return "[]" + kids[0]
	case api.KArray:
		return "[" + strconv.Itoa(t.N) + "]" + kids[0]
	case api.KMap:
		return "map[" + kids[0] + "]" + kids[1]
	case api.KFunc:
		params := kids[:len(kids)-t.N]
		return strings.Join(append([]string{"func(" + strings.Join(params, ", ") + ")"}, kids[len(params):]...), " ")
	case api.KStruct:
		for i, w := range t.Words {
			kids[i] = w + " " + kids[i]
		}
		return "struct{" + strings.Join(kids, "; ") + "}"
	case api.KIface:
		return "interface{" + strings.Join(parts(t, kids), "; ") + "}"
	case api.KParam:
		return "#" + strconv.Itoa(t.N)
	}
	if len(kids) > 0 {
		return t.Name + "[" + strings.Join(kids, ", ") + "]"
	}
	return t.Name
}

// parts are what stands in an interface's text.
func parts(t api.Type, kids []string) []string {
	var l, terms []string
	if t.N&1 != 0 {
		l = append(l, "comparable")
	}
	for i, w := range t.Words {
		switch w {
		case "=":
			terms = append(terms, kids[i])
		case "~":
			terms = append(terms, w+kids[i])
		default:
			l = append(l, w+strings.TrimPrefix(kids[i], "func"))
		}
	}
	if t.N&2 == 0 {
		return l
	}
	if len(terms) == 0 {
		return append(l, "none")
	}
	return append(l, strings.Join(terms, " | "))
}

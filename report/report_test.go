package report

import (
	"fmt"
	"math/rand"
	"slices"
	"strings"
	"testing"

	"indenture/api"
)

func same(a, b api.Script) bool {
	source := func(x, y api.Source) bool { return x.Path == y.Path && slices.Equal(x.Files, y.Files) }
	return a.Base == b.Base && slices.EqualFunc(a.Old, b.Old, source) && slices.EqualFunc(a.New, b.New, source)
}

func show(l []api.Source) string {
	s := ""
	for _, x := range l {
		s += fmt.Sprintf("%s%q ", x.Path, x.Files)
	}
	return strings.TrimSpace(s)
}

func TestP24_1(t *testing.T) {
	lines := strings.Repeat("x\n", 200)
	for s, want := range map[string][3]string{
		"base 1.2.3\n":          {"1.2.3", "", ""},
		"base \n":               {"", "", ""},
		"base  a b\r\x00\xff\n": {" a b\r\x00\xff", "", ""},
		"base 1\nold p 0\n":     {"1", `p[""]`, ""},
		"base 1\nold p 2\na\n\nnew q 1\nold p 5\n":           {"1", `p["a\n\n"]`, `q["old p 5\n"]`},
		"base 1\nnew p 1\na\nnew p 1\nb\nnew q 0\nnew p 0\n": {"1", "", `p["a\n" "b\n"] q[""] p[""]`},
		"base 1\nold p 0\nnew p 0\n":                         {"1", `p[""]`, `p[""]`},
		"base 1\nold p 200\n" + lines:                        {"1", fmt.Sprintf("p[%q]", lines), ""},
		"base " + strings.Repeat("b", 200) + "\n":            {strings.Repeat("b", 200), "", ""},
	} {
		x, e, at := Parse(s)
		if e != api.OK || at != 0 || x.Base != want[0] || show(x.Old) != want[1] || show(x.New) != want[2] {
			t.Errorf("%q: %q %s %s %d %d", s, x.Base, show(x.Old), show(x.New), e, at)
		}
		if back, e := Print(x); back != s || e != api.OK {
			t.Errorf("%q: %q %d", s, back, e)
		}
	}
	for s, want := range map[string]int{
		"": 1, "base 1": 1, "base\n": 1, "Base 1\n": 1, " base 1\n": 1, "based 1\n": 1, "\n": 1, "base " + strings.Repeat("b", 201) + "\n": 1, "old p 0\nbase 1\n": 1,
		"base 1\nx": 2, "base 1\n\n": 2, "base 1\nold p\n": 2, "base 1\nold p 1": 2, "base 1\nold p x\n": 2, "base 1\nold p 01\n\n": 2, "base 1\nold p 00\n": 2, "base 1\nold p +1\n\n": 2, "base 1\nold p -1\n": 2, "base 1\nold p -0\n": 2, "base 1\nold p 201\n" + lines + "x\n": 2, "base 1\nold p 99999999999999999999\n": 2, "base 1\nold p 0 \n": 2, "base 1\nold  p 0\n": 2, "base 1\nold p  0\n": 2, "base 1\nold 1p 0\n": 2, "base 1\nold " + strings.Repeat("p", 21) + " 0\n": 2, "base 1\nOld p 0\n": 2, "base 1\nold p/q 0\n": 2, "base 1\nold p 0\r\n": 2, "base 1\nfresh p 0\n": 2, "base 1\nold p \n": 2,
		"base 1\nold p 1\n": 3, "base 1\nold p 1\nx": 3, "base 1\nold p 2\nx\n": 4, "base 1\nold p 3\nx\ny": 4, "base 1\nnew p 0\nold p 0\n": 3, "base 1\nold p 0\nx\n": 3, "base 1\nnew p 1\nx\nold p 1\nx\n": 4, "base 1\nold p 0\n\n": 3, "base 1\nold p 1\nold p 1\nold p 1\n": 5,
	} {
		if x, e, at := Parse(s); e != api.ErrLine || at != want || !same(x, api.Script{}) {
			t.Errorf("%q: %d %d", s, e, at)
		}
	}
}

func TestP24_1Print(t *testing.T) {
	p := func(path string, files ...string) api.Source { return api.Source{Path: path, Files: files} }
	for i, x := range []api.Script{
		{Base: "a\nb"}, {Base: "a\n"}, {Base: strings.Repeat("b", 201)},
		{Old: []api.Source{p("")}}, {Old: []api.Source{p("a b", "")}}, {New: []api.Source{p("1", "")}}, {Old: []api.Source{p(strings.Repeat("p", 21), "")}},
		{Old: []api.Source{p("p", ""), p("p", "")}}, {New: []api.Source{p("p", ""), p("q", ""), p("q", "")}}, {Old: []api.Source{p("p")}}, {New: []api.Source{p("p", ""), p("q")}},
		{Old: []api.Source{p("p", "a")}}, {Old: []api.Source{p("p", "a\nb")}}, {New: []api.Source{p("p", "", "a")}}, {New: []api.Source{p("p", strings.Repeat("\n", 201))}},
	} {
		if s, e := Print(x); s != "" || e != api.ErrArg {
			t.Error(i, s, e)
		}
	}
	x := api.Script{Base: "1", Old: []api.Source{p("p", "", "a\n"), p("q", "\n"), p("p", "b\n")}, New: []api.Source{p("p", "")}}
	if s, e := Print(x); s != "base 1\nold p 0\nold p 1\na\nold q 1\n\nold p 1\nb\nnew p 0\n" || e != api.OK {
		t.Error(s, e)
	}
}

// script is one of a version, and of sources such as `p: file || file`.
func script(base, old, fresh string) api.Script {
	row := func(s string) []api.Source {
		var l []api.Source
		for _, x := range strings.Split(s, " ### ") {
			path, files, ok := strings.Cut(x, ": ")
			if !ok || len(path) != 1 {
				path, files = "p", x
			}
			one := api.Source{Path: path}
			for _, f := range strings.Split(files, " || ") {
				one.Files = append(one.Files, "package "+path+"\n"+f)
			}
			l = append(l, one)
		}
		return l
	}
	return api.Script{Base: base, Old: row(old), New: row(fresh)}
}

func TestP24_2(t *testing.T) {
	for _, c := range []struct {
		base, old, fresh string
		class            int
		want, next       string
	}{
		// The ten examples of the whole, but for the ninth one.
		{"1.2.3", "func F() int { return 1 }", "func F() int { return 2 }", 0, "", "1.2.4"},
		{"1.2.3", "var V t; type t int", "var V u; type u int", 0, "", "1.2.4"},
		{"1.2.3", "var V int", "var V int; func F() {}", 1, "1 2 p.F: ", "1.3.0"},
		{"1.2.3", "const A = 1", "const A = 2", 3, "3 3 p.A: const W = 1 / (p.A - 2)", "2.0.0"},
		{"1.2.3", "type T struct{ X int; Y string }", "type T struct{ X int }", 3, "3 3 p.T: var V p.T; var W = V.Y", "2.0.0"},
		{"1.2.3", "type T struct{ X int }", "type T struct{ X int; Y int }", 2, "2 3 p.T: ", "2.0.0"},
		{"1.2.3", "func F[A ~int | ~string]() {}", "func F[A ~int]() {}", 3, "3 3 p.F: var W = p.F[string]", "2.0.0"},
		{"1.2.3", "p: var A int ### q: var B int", "p: var A int", 3, "3 4 q.: ", "2.0.0"},
		{"0.4.1", "var A int", "var B int", 3, "3 1 p.A: var W = p.A; 1 2 p.B: ", "0.5.0"},
		{"1.3.0-rc.1", "var A int", "var A int; var B int", 1, "1 2 p.B: ", "1.3.0"},
		{"1.2.3", "var A int", "p: var A int ### q: var B int", 1, "1 5 q.: ", "1.3.0"},
		{"1.2.3+x", "var A int", "var A int", 0, "", "1.2.4"},
		{"1.2.3", "type B struct{ x t }; type t int; const C = 1; var b int", "type B struct{ x s }; type s int; const C = 1; var c string", 0, "", "1.2.4"},
	} {
		x := script(c.base, c.old, c.fresh)
		r, e := Run(x)
		var got []string
		for _, f := range r.Findings {
			client := strings.TrimPrefix(f.Client, "package client\nimport \""+f.Change.Pkg+"\"\n")
			got = append(got, fmt.Sprintf("%d %d %s.%s: %s", f.Class, f.Change.What, f.Change.Pkg, f.Change.Name, strings.ReplaceAll(strings.TrimSuffix(client, "\n"), "\n", "; ")))
		}
		if s := strings.Join(got, "; "); e != api.OK || s != c.want || r.Class != c.class || r.Next != c.next || r.Base != c.base || r.Which != 0 || r.Bad != nil {
			t.Errorf("%s, %s: %s %d %s %d %v", c.old, c.fresh, s, r.Class, r.Next, e, r.Bad)
		}
	}
}

func TestP24_2Wrong(t *testing.T) {
	zero := func(r api.Report) bool {
		return r.Base == "" && r.Which == 0 && r.Bad == nil && r.Findings == nil && r.Class == 0 && r.Next == ""
	}
	for base, want := range map[string]api.Errno{"": api.ErrSyntax, "1.2": api.ErrSyntax, "1.2.3-" + strings.Repeat("a", 41): api.ErrMany, "99999999999999999999.0.0": api.ErrOver} {
		if r, e := Run(script(base, "var a = x", "var a = x")); !zero(r) || e != want {
			t.Error(base, r, e)
		}
	}
	// The ninth example: a cycle of constants.
	r, e := Run(script("1.2.3", "const a = b; const b = a", "var x = y"))
	if e != api.OK || r.Base != "1.2.3" || r.Which != 1 || len(r.Bad) != 1 || r.Bad[0] != (api.Bad{Pkg: "p", At: 10, Why: api.ErrCycle}) || r.Findings != nil || r.Next != "" || r.Class != 0 {
		t.Error(r, e)
	}
	r, e = Run(script("1.2.3", "const a = 1", "var x = y; var x int; var z int || var z int"))
	if e != api.OK || r.Which != 2 || len(r.Bad) != 2 || r.Bad[1].File != 1 || r.Findings != nil || r.Next != "" {
		t.Error(r, e)
	}
	r, e = Run(api.Script{Base: "1.2.3"})
	if e != api.OK || r.Which != 1 || len(r.Bad) != 1 || r.Bad[0] != (api.Bad{Why: api.ErrArg}) {
		t.Error(r, e)
	}
	r, e = Run(script("9223372036854775807.0.0", "var A int", "var B int"))
	if !zero(r) || e != api.ErrOver {
		t.Error(r, e)
	}
	r, e = Run(script("9223372036854775807.0.0", "var A int", "var A int; var B int"))
	if r.Next != "9223372036854775807.1.0" || e != api.OK {
		t.Error(r, e)
	}
}

func TestP24_3(t *testing.T) {
	bad := []api.Bad{{Pkg: "p", File: 2, At: 17, Why: api.ErrCycle}, {Why: api.ErrArg}}
	for i, c := range []struct {
		r    api.Report
		want string
	}{
		{api.Report{}, "base \nnext \n"},
		{api.Report{Base: "1.2.3", Next: "1.2.4", Class: 3}, "base 1.2.3\nnext 1.2.4\n"},
		{api.Report{Base: "1", Which: 1, Bad: bad, Next: "2", Findings: []api.Finding{{}}}, "base 1\nold\nbad p 2 17 10\nbad  0 0 1\n"},
		{api.Report{Base: "1", Which: 2}, "base 1\nnew\n"},
		{api.Report{Base: "1", Which: 3, Bad: bad, Next: "2"}, "base 1\nnext 2\n"},
		{api.Report{Base: "1", Which: -1, Bad: bad, Next: "2"}, "base 1\nnext 2\n"},
		{api.Report{Findings: []api.Finding{
			{Change: api.Change{What: 1, Pkg: "p", Name: "A"}, Class: 1},
			{Change: api.Change{What: 2, Pkg: "p", Name: "B"}, Class: 2},
			{Change: api.Change{What: 3, Pkg: "p", Name: "C"}, Class: 3, Client: "a\nb\n"},
			{Change: api.Change{What: 4, Pkg: "q"}, Class: 3, Client: "a\n\nb"},
			{Change: api.Change{What: 5, Pkg: "r"}, Class: 1, Client: "\n"},
			{Change: api.Change{What: 0, Pkg: ""}, Class: 0},
			{Change: api.Change{What: 6, Pkg: "x", Name: "y"}, Class: 4},
			{Change: api.Change{What: -1}, Class: -1, Client: "z"},
		}, Next: "2.0.0"}, "base \nfine gone p.A\nunsure new p.B\nbreaking other p.C\n| a\n| b\nbreaking package gone q\n| a\n| \n| b\nfine package new r\n| \nnone none \nnone none x.y\nnone none \n| z\nnext 2.0.0\n"},
	} {
		if got := Text(c.r); got != c.want {
			t.Errorf("%d: %q", i, got)
		}
	}
}

func TestP24_4(t *testing.T) {
	text := "base 1.2.3\nold p 2\npackage p\nconst A = 1\nnew p 2\npackage p\nconst A = 2\n"
	x, e, at := Parse(text)
	if e != api.OK || at != 0 {
		t.Fatal(e, at)
	}
	r, e := Run(x)
	want := "base 1.2.3\nbreaking other p.A\n| package client\n| import \"p\"\n| const W = 1 / (p.A - 2)\nnext 2.0.0\n"
	if got := Text(r); got != want || e != api.OK {
		t.Error(got, e)
	}
	rnd := rand.New(rand.NewSource(1))
	pieces := []string{"base 1\n", "old p 1\n", "new p 0\n", "old q 2\n", "x\n", "\n", "new q 1\n", "base 2\n", "old p 0\n"}
	fine := 0
	for range 20000 {
		s := "base 1\n"
		for range rnd.Intn(6) {
			s += pieces[rnd.Intn(len(pieces))]
		}
		x, e, at := Parse(s)
		if e != api.OK {
			if e != api.ErrLine || at < 1 || at > strings.Count(s, "\n")+1 {
				t.Fatalf("%q %d %d", s, e, at)
			}
			continue
		}
		fine++
		back, e := Print(x)
		y, e1, _ := Parse(back)
		if back != s || e != api.OK || e1 != api.OK || !same(x, y) {
			t.Fatalf("%q %q", s, back)
		}
	}
	if fine < 500 {
		t.Error("too few are fine", fine)
	}
	for _, s := range []string{"var A int", "type T[X any] struct{ x t }; type t int; func F(x T[t]) t { return x.x }", "p: import \"q\"; var A q.B ### q: type B interface{ m() }"} {
		r, e := Run(script("1.2.3-a", s, s))
		if e != api.OK || len(r.Findings) != 0 || r.Class != 0 || r.Next != "1.2.3" {
			t.Error(s, r, e)
		}
	}
}

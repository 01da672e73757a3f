package ast

import (
	"math/rand"
	"slices"
	"testing"

	"indenture/api"
)

// least and most are how many kids the chapter lets each kind have; -1 is any number.
var least = []int{0, 0, 0, 0, 0, 0, 1, 1, 2, 1, 2, 1, 1, 2, 2, 1, 0, 0, 1, 1, 1, 1, 1, 2, 2, 2, 0, 1, 4, 1, 1, 0, 0}
var most = []int{0, 0, 0, 0, 0, 0, 1, -1, -1, 1, 2, 1, 1, 2, 2, -1, -1, -1, 1, 1, 1, -1, 1, 2, 2, 2, -1, 1, 4, 1, 1, 0, -1}

// fan is a tree of a root of that kind, and names.
func fan(kind, kids int) []api.Node {
	l := make([]api.Node, kids, kids+1)
	root := api.Node{Kind: kind}
	for i := range l {
		l[i].Kind = api.NName
		root.Kids = append(root.Kids, i)
	}
	return append(l, root)
}

func TestP7_1(t *testing.T) {
	for kind := range api.NFile + 1 {
		for kids := range 8 {
			want := kids >= least[kind] && (most[kind] < 0 || kids <= most[kind])
			if Right(fan(kind, kids)) != want {
				t.Error(kind, kids)
			}
		}
	}
	if Right(nil) || !Right(fan(api.NFile, 1999)) || Right(fan(api.NFile, 2000)) {
		t.Error("size")
	}
	for _, n := range []api.Node{{Kind: -1}, {Kind: 33}, {At: -1}, {At: 4001}} {
		if Right([]api.Node{n}) {
			t.Error(n)
		}
	}
	if !Right([]api.Node{{At: 4000}}) {
		t.Error("at 4000")
	}
	name := api.Node{Kind: api.NName}
	paren := func(kids ...int) api.Node { return api.Node{Kind: api.NParen, Kids: kids} }
	plus := func(kids ...int) api.Node { return api.Node{Kind: api.NBinary, Kids: kids} }
	for _, l := range [][]api.Node{
		{name, name}, {paren(0)}, {paren(1), name}, {name, paren(-1)}, {name, paren(2)}, {name, plus(0, 0)}, {name, paren(0), name, plus(0, 2)}, {name, paren(0), plus(0, 1)}, {name, name, paren(0)},
	} {
		if Right(l) {
			t.Error(l)
		}
	}
	if !Right([]api.Node{name, name, paren(0), plus(2, 1)}) || !Right([]api.Node{name, name, plus(1, 0)}) {
		t.Error("other orders of kids")
	}
}

func TestP7_1Like(t *testing.T) {
	a := []api.Node{{Kind: api.NName, Text: "x", At: 3}, {Kind: api.NParen, Kids: []int{0}, At: 1}}
	b := []api.Node{{Kind: api.NName, Text: "x"}, {Kind: api.NParen, Kids: []int{0}, At: 9000}}
	if !Like(a, b) || !Like(nil, []api.Node{}) || !Like([]api.Node{{}}, []api.Node{{Kids: []int{}}}) {
		t.Error("alike")
	}
	for _, c := range [][]api.Node{nil, a[:1], {{Kind: api.NName, Text: "y"}, b[1]}, {{Kind: api.NInt, Text: "x"}, b[1]}, {b[0], {Kind: api.NParen, Kids: []int{1}}}, {b[0], {Kind: api.NParen}}} {
		if Like(a, c) || Like(c, a) || !Like(c, c) {
			t.Error(c)
		}
	}
}

// random is a tree of random nodes: each takes some of the roots that are left.
func random(r *rand.Rand) []api.Node {
	var l []api.Node
	var roots []int
	for range 1 + r.Intn(30) {
		kind := r.Intn(api.NFile + 1)
		n := api.Node{Kind: kind, At: r.Intn(4001), Text: string(rune('a' + r.Intn(3)))}
		many := least[kind]
		if most[kind] < 0 {
			many += r.Intn(3)
		}
		if many > len(roots) {
			continue
		}
		for range many {
			k := r.Intn(len(roots))
			n.Kids = append(n.Kids, roots[k])
			roots = slices.Delete(roots, k, k+1)
		}
		roots = append(roots, len(l))
		l = append(l, n)
	}
	return append(l, api.Node{Kind: api.NFile, Kids: roots})
}

func deep(l []api.Node, i int) int {
	d := 0
	for _, k := range l[i].Kids {
		d = max(d, deep(l, k))
	}
	return d + 1
}

func parts(l []api.Node, i int) []int {
	p := []int{i}
	for _, k := range l[i].Kids {
		p = append(p, parts(l, k)...)
	}
	slices.Sort(p)
	return p
}

func TestP7_2(t *testing.T) {
	x := []api.Node{{Kind: api.NName, Text: "x"}, {Kind: api.NName, Text: "y"}, {Kind: api.NBinary, Text: "+", Kids: []int{0, 1}}}
	if d, e := Deep(x); d != 2 || e != api.OK {
		t.Error(d, e)
	}
	for _, l := range [][]api.Node{nil, {{Kind: 40}}, fan(api.NParen, 2)} {
		if d, e := Deep(l); d != 0 || e != api.ErrArg {
			t.Error(l, d, e)
		}
		for _, i := range []int{-1, 0, 5} {
			if c, e := Cut(l, i); c != nil || e != api.ErrArg {
				t.Error(l, c, e)
			}
		}
	}
	for _, i := range []int{-1, 3, 1 << 40} {
		if c, e := Cut(x, i); c != nil || e != api.ErrNone {
			t.Error(i, c, e)
		}
	}
	r := rand.New(rand.NewSource(1))
	for range 3000 {
		l := random(r)
		if d, e := Deep(l); e != api.OK || d != deep(l, len(l)-1) {
			t.Fatal(l, d, e)
		}
		i := r.Intn(len(l))
		c, e := Cut(l, i)
		p := parts(l, i)
		if e != api.OK || len(c) != len(p) {
			t.Fatal(l, i, c, e)
		}
		for to, from := range p {
			a, b := l[from], c[to]
			same := a.Kind == b.Kind && a.Text == b.Text && a.At == b.At && len(a.Kids) == len(b.Kids)
			for n := range a.Kids {
				same = same && p[b.Kids[n]] == a.Kids[n]
			}
			if !same {
				t.Fatal(l, i, c)
			}
		}
	}
	chain := []api.Node{{}}
	for i := range 1999 {
		chain = append(chain, api.Node{Kind: api.NParen, Kids: []int{i}})
	}
	if d, e := Deep(chain); d != 2000 || e != api.OK {
		t.Error(d, e)
	}
	if c, e := Cut(chain, 1998); len(c) != 1999 || e != api.OK {
		t.Error(len(c), e)
	}
}

func TestP7_3(t *testing.T) {
	r := rand.New(rand.NewSource(2))
	for range 2000 {
		l := random(r)
		all, root := 1, l[len(l)-1]
		for i := range l {
			if c, e := Cut(l, i); e != api.OK || !Right(c) {
				t.Fatal(l, i, c, e)
			}
		}
		for _, k := range root.Kids {
			c, _ := Cut(l, k)
			all += len(c)
		}
		c, _ := Cut(l, len(l)-1)
		if all != len(l) || !Like(c, l) {
			t.Fatal(l, all, c)
		}
		c[0].Text = "changed"
		if len(c) > 1 && len(c[len(c)-1].Kids) > 0 {
			c[len(c)-1].Kids[0] = 99
		}
		if l[0].Text == "changed" || !Right(l) {
			t.Fatal("shared", l)
		}
	}
}

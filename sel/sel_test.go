package sel

import (
	"fmt"
	"slices"
	"strings"
	"testing"

	"indenture/api"
	"indenture/typ"
	"indenture/unit"
)

// builder makes a unit, a type at a time.
type builder struct {
	t *testing.T
	u api.Unit
}

func newBuilder(t *testing.T) *builder { return &builder{t, api.Unit{Types: typ.Start()}} }

// declare makes a Named of that name, without params, if no others are told, of what it is.
func (b *builder) declare(name string, under int, methods ...api.Method) int {
	b.t.Helper()
	return b.generic(name, nil, under, methods...)
}

func (b *builder) generic(name string, bounds []int, under int, methods ...api.Method) int {
	b.t.Helper()
	b.u.Named = append(b.u.Named, api.Named{Name: "p." + name, Bounds: bounds, Under: under, Methods: methods})
	slices.SortFunc(b.u.Named, func(x, y api.Named) int { return strings.Compare(x.Name, y.Name) })
	if len(bounds) > 0 {
		return 0
	}
	return b.put(api.Type{Kind: api.KNamed, Name: "p." + name})
}

func (b *builder) put(t api.Type) int {
	b.t.Helper()
	u, i, e := unit.Put(b.u, t)
	if e != api.OK {
		b.t.Fatal(t, e)
	}
	b.u = u
	return i
}

func (b *builder) of(kind int, kids ...int) int { return b.put(api.Type{Kind: kind, Kids: kids}) }

func (b *builder) fn(result int) int {
	return b.put(api.Type{Kind: api.KFunc, N: 1, Kids: []int{result}})
}

func (b *builder) structure(words string, kids ...int) int {
	return b.put(api.Type{Kind: api.KStruct, Words: strings.Fields(words), Kids: kids})
}

func (b *builder) iface(words string, kids ...int) int {
	return b.put(api.Type{Kind: api.KIface, Words: strings.Fields(words), Kids: kids})
}

// find writes what a name selects.
func (b *builder) find(i int, name string) string {
	u, s, e := Find(b.u, i, name)
	if e != api.OK {
		if !unit.Like(u, api.Unit{}) || !Like(s, api.Sel{}) {
			b.t.Error("not zero", name, s)
		}
		return fmt.Sprint("error ", int(e))
	}
	text, _ := typ.Text(u.Types, s.Type)
	if !unit.Right(u) {
		b.t.Error("not right", name)
	}
	mark := ""
	if s.Method {
		mark += "method "
	}
	if s.Ptr {
		mark += "ptr "
	}
	if s.Via {
		mark += "via "
	}
	return mark + text + " " + strings.Trim(fmt.Sprint(s.Path), "[]")
}

func (b *builder) want(i int, l ...string) {
	b.t.Helper()
	for n := 0; n < len(l); n += 2 {
		if got := b.find(i, l[n]); got != strings.TrimRight(l[n+1], "") {
			b.t.Errorf("%s of %d: %q, not %q", l[n], i, got, l[n+1])
		}
	}
}

func TestP13_1(t *testing.T) {
	b := newBuilder(t)
	f := b.fn(api.YInt)
	s := b.structure("A B", api.YInt, api.YBool)
	T := b.declare("T", s, api.Method{Name: "M", Sig: f}, api.Method{Name: "P", Ptr: true, Sig: f})
	b.want(s, "A", "int 0", "B", "bool 1", "C", "error 8", "_", "error 1", "", "error 1", "1", "error 1", strings.Repeat("a", 21), "error 1", "A.B", "error 1")
	b.want(T, "A", "int 0", "M", "method func() int ", "P", "method ptr func() int ")
	pT := b.of(api.KPtr, T)
	b.want(pT, "A", "via int 0", "M", "method via func() int ", "P", "method ptr via func() int ")
	// Of a pointer to a pointer, or to an interface, nothing is there.
	i := b.iface("M", f)
	I := b.declare("I", i)
	Q := b.declare("Q", pT)
	for _, to := range []int{pT, i, I, Q} {
		b.want(b.of(api.KPtr, to), "A", "error 8", "M", "error 8")
	}
	b.want(i, "M", "method func() int ")
	b.want(I, "M", "method func() int ", "N", "error 8")
	b.want(Q, "A", "error 8", "M", "error 8")
	b.want(api.YInt, "A", "error 8")
	b.want(b.put(api.Type{Kind: api.KParam}), "A", "error 8")
	b.want(b.of(api.KPtr, api.YInt), "A", "error 8")
	// An example of the chapter: two structs of which one is embedded.
	b.want(b.structure("+T", T), "A", "int 0 0", "T", "p.T 0", "M", "method func() int 0", "P", "method ptr func() int 0")
	b.want(b.structure("x +T", T, pT), "A", "via int 1 0", "T", "*p.T 1", "P", "method ptr via func() int 1", "x", "p.T 0")
	b.want(b.of(api.KPtr, b.structure("+T", T)), "A", "via int 0 0", "T", "via p.T 0")
	b.want(b.structure("+I", I), "M", "method func() int 0")
	b.want(b.structure("+J", i), "M", "method func() int 0")
	b.want(b.structure("+Q", Q), "A", "error 8", "Q", "p.Q 0")
}

func TestP13_1Levels(t *testing.T) {
	b := newBuilder(t)
	f := b.fn(api.YInt)
	L := b.declare("L", b.structure("A X", api.YInt, api.YInt))
	R := b.declare("R", b.structure("A Y", api.YBool, api.YInt), api.Method{Name: "X", Sig: f})
	both := b.structure("+L +R", L, R)
	b.want(both, "A", "error 9", "X", "error 9", "Y", "int 1 1", "L", "p.L 0")
	// A level that is nearer hides those behind it.
	near := b.structure("X +B", api.YString, both)
	b.want(near, "X", "string 0", "A", "error 9", "Y", "int 1 1 1")
	// A field and a method of one type.
	odd := b.declare("Odd", b.structure("X Z", api.YInt, api.YInt), api.Method{Name: "X", Sig: f})
	b.want(odd, "X", "error 9", "Z", "int 1")
	// Manifold: one type by two ways.
	l2 := b.declare("L2", b.structure("+L", L))
	r2 := b.declare("R2", b.structure("+L", b.of(api.KPtr, L)))
	b.want(b.structure("+L2 +R2", l2, r2), "L", "error 9", "A", "error 9", "X", "error 9")
	// What comes out of a manifold one is so, too.
	deep := b.declare("D", b.structure("+L2", l2))
	other := b.declare("E", b.structure("+L2", l2))
	b.want(b.structure("+D +E", deep, other), "L2", "error 9", "L", "error 9", "A", "error 9")
	b.want(b.structure("+D +R2", deep, r2), "A", "via int 1 0 0", "L2", "p.L2 0 0", "L", "*p.L 1 0")
	// The first way counts, also of a pointer; but a manifold one is told to be there twice.
	b.want(b.structure("+R2 y", r2, l2), "A", "via int 0 0 0")
	// Types of earlier levels are not gone through again.
	b.u.Named = append(b.u.Named, api.Named{Name: "p.Self", Under: 2})
	slices.SortFunc(b.u.Named, func(x, y api.Named) int { return strings.Compare(x.Name, y.Name) })
	self := b.put(api.Type{Kind: api.KNamed, Name: "p.Self"})
	s := b.structure("+Self +L", b.of(api.KPtr, self), L)
	for i := range b.u.Named {
		if b.u.Named[i].Name == "p.Self" {
			b.u.Named[i].Under = s
		}
	}
	b.want(self, "A", "int 1 0", "Self", "*p.Self 0", "Q", "error 8")
	b.want(s, "A", "int 1 0", "Self", "*p.Self 0", "Q", "error 8")
}

// chain is a unit of structs, each embedded in the next one, with the last type's place.
func chain(t *testing.T, n int) (*builder, int) {
	b := newBuilder(t)
	k := b.structure("A", api.YInt)
	for i := range n {
		k = b.structure(fmt.Sprintf("+E%d B%d", i, i), k, api.YInt)
	}
	return b, k
}

func TestP13_1Deep(t *testing.T) {
	b, k := chain(t, 6)
	b.want(k, "A", "int 0 0 0 0 0 0 0", "E0", "struct{A int} 0 0 0 0 0 0")
	b, k = chain(t, 7)
	b.want(k, "A", "error 8", "E0", "struct{A int} 0 0 0 0 0 0 0", "B0", "int 0 0 0 0 0 0 1")
	if l, e := Names(b.u, k); e != api.OK || slices.Contains(l, "A") || len(l) != 14 {
		t.Error(l, e)
	}
}

func TestP13_1Generic(t *testing.T) {
	b := newBuilder(t)
	p := b.put(api.Type{Kind: api.KParam})
	slice := b.of(api.KSlice, p)
	f := b.fn(p)
	g := b.fn(slice)
	b.generic("G", []int{api.YAny}, b.structure("V W", p, slice), api.Method{Name: "Get", Sig: f}, api.Method{Name: "Row", Sig: g})
	G := b.put(api.Type{Kind: api.KNamed, Name: "p.G", Kids: []int{api.YString}})
	b.want(G, "V", "string 0", "W", "[]string 1", "Get", "method func() string ", "Row", "method func() []string ")
	// All of a level's types are looked at, in order: Under, then Methods.
	n := len(b.u.Types)
	u, _, e := Find(b.u, G, "Nothing")
	if e != api.ErrNone || !unit.Like(u, api.Unit{}) {
		t.Error(e)
	}
	u, s, _ := Find(b.u, G, "V")
	var row []string
	for i := n; i < len(u.Types); i++ {
		x, _ := typ.Text(u.Types, i)
		row = append(row, x)
	}
	want := []string{"[]string", "struct{V string; W []string}", "func() string", "func() []string"}
	if !slices.Equal(row, want) || s.Type != api.YString {
		t.Error(row, s)
	}
	// What is told: there is no room for all that.
	full := b.u
	for i := 0; len(full.Types) < 398; i++ {
		full.Types = append(slices.Clip(full.Types), api.Type{Kind: api.KArray, N: i, Kids: []int{G}})
	}
	for _, name := range []string{"V", "Get", "Nothing"} {
		if u, s, e := Find(full, G, name); e != api.ErrMany || !unit.Like(u, api.Unit{}) || !Like(s, api.Sel{}) {
			t.Error(name, s, e)
		}
		if ok, e := Has(full, G, name, f); ok || e != api.OK {
			t.Error(ok, e)
		}
	}
	if l, e := Names(full, G); len(l) != 0 || e != api.OK {
		t.Error(l, e)
	}
	// What earlier levels have is there.
	full.Types = full.Types[:396]
	full.Types = append(full.Types, api.Type{Kind: api.KStruct, Words: []string{"+G", "X"}, Kids: []int{G, 2}})
	if l, e := Names(full, 396); !slices.Equal(l, []string{"G", "X"}) || e != api.OK {
		t.Error(l, e)
	}
	if _, _, e := Find(full, 396, "V"); e != api.ErrMany {
		t.Error(e)
	}
	if _, s, e := Find(full, 396, "X"); e != api.OK || s.Type != 2 {
		t.Error(s, e)
	}
}

func TestP13_2(t *testing.T) {
	b := newBuilder(t)
	f, g := b.fn(api.YInt), b.fn(api.YBool)
	L := b.declare("L", b.structure("A X _", api.YInt, api.YInt, api.YInt), api.Method{Name: "M", Ptr: true, Sig: f}, api.Method{Name: "N", Sig: g})
	R := b.declare("R", b.structure("A Y", api.YBool, api.YInt))
	i := b.iface("_ a b", f, f, g)
	both := b.structure("+L +R Y", L, R, api.YInt)
	for _, c := range []struct {
		i    int
		want string
	}{
		{L, "A M N X"}, {b.of(api.KPtr, L), "A M N X"}, {both, "L M N R X Y"}, {i, "a b"}, {b.of(api.KPtr, i), ""}, {2, ""}, {b.structure("z a _ b", 2, 2, 2, 2), "a b z"},
	} {
		l, e := Names(b.u, c.i)
		if !slices.Equal(l, strings.Fields(c.want)) || e != api.OK {
			t.Error(c, l, e)
		}
		for _, name := range strings.Fields("A M N X L R Y a b z") {
			if _, _, e := Find(b.u, c.i, name); (e == api.OK) != slices.Contains(l, name) {
				t.Error(c, name, e)
			}
		}
	}
	for _, c := range []struct {
		i    int
		name string
		sig  int
		want bool
	}{
		{L, "M", f, false}, {b.of(api.KPtr, L), "M", f, true}, {L, "N", g, true}, {L, "N", f, false}, {L, "A", 2, false}, {L, "Z", f, false}, {both, "N", g, true}, {both, "M", f, false}, {b.structure("+L", b.of(api.KPtr, L)), "M", f, true}, {both, "A", f, false}, {i, "a", f, true}, {i, "_", f, false}, {i, "", f, false},
	} {
		if ok, e := Has(b.u, c.i, c.name, c.sig); ok != c.want || e != api.OK {
			t.Error(c, ok, e)
		}
	}
}

func TestP13_2Wrong(t *testing.T) {
	b := newBuilder(t)
	f := b.fn(api.YInt)
	bad := api.Unit{Types: b.u.Types[:20]}
	for _, i := range []int{-1, len(b.u.Types), 1 << 40} {
		if u, s, e := Find(b.u, i, "_"); e != api.ErrNone || !unit.Like(u, api.Unit{}) || !Like(s, api.Sel{}) {
			t.Error(i, e)
		}
		if l, e := Names(b.u, i); l != nil || e != api.ErrNone {
			t.Error(i, e)
		}
		if ok, e := Has(b.u, i, "a", f); ok || e != api.ErrNone {
			t.Error(i, e)
		}
		if ok, e := Has(b.u, f, "a", i); ok || e != api.ErrNone {
			t.Error(i, e)
		}
		if _, _, e := Find(bad, i, "a"); e != api.ErrArg {
			t.Error(e)
		}
		if _, e := Names(bad, i); e != api.ErrArg {
			t.Error(e)
		}
		if _, e := Has(bad, i, "a", i); e != api.ErrArg {
			t.Error(e)
		}
	}
	a := api.Sel{Method: true, Type: 1, Ptr: true, Via: true, Path: []int{1}}
	for _, x := range []api.Sel{{Type: 1, Ptr: true, Via: true, Path: []int{1}}, {Method: true, Ptr: true, Via: true, Path: []int{1}}, {Method: true, Type: 1, Via: true, Path: []int{1}}, {Method: true, Type: 1, Ptr: true, Path: []int{1}}, {Method: true, Type: 1, Ptr: true, Via: true}} {
		if Like(a, x) || !Like(x, x) {
			t.Error(x)
		}
	}
	if !Like(api.Sel{Path: []int{}}, api.Sel{}) {
		t.Error("nil")
	}
}

func TestP13_3(t *testing.T) {
	b := newBuilder(t)
	f := b.fn(api.YInt)
	T := b.declare("T", b.structure("A", api.YInt), api.Method{Name: "F", Sig: f})
	i := b.structure("+T", T)
	if got := b.find(i, "A"); got != "int 0 0" {
		t.Error(got)
	}
	for _, k := range []int{T, i} {
		names, _ := Names(b.u, k)
		p := b.of(api.KPtr, k)
		more, _ := Names(b.u, p)
		if !slices.Equal(names, more) {
			t.Error(names, more)
		}
		if ok, _ := Has(b.u, k, "F", f); !ok {
			t.Error(k)
		}
		if ok, _ := Has(b.u, p, "F", f); !ok {
			t.Error(p)
		}
	}
}

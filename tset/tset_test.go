package tset

import (
	"slices"
	"strings"
	"testing"

	"indenture/api"
	"indenture/typ"
	"indenture/unit"
)

// builder makes a unit, a type at a time.
type builder struct {
	t *testing.T
	u api.Unit
}

func newBuilder(t *testing.T) *builder { return &builder{t, api.Unit{Types: typ.Start()}} }

func (b *builder) declare(name string, bounds []int, under int, methods ...api.Method) int {
	b.t.Helper()
	b.u.Named = append(b.u.Named, api.Named{Name: "p." + name, Bounds: bounds, Under: under, Methods: methods})
	slices.SortFunc(b.u.Named, func(x, y api.Named) int { return strings.Compare(x.Name, y.Name) })
	if len(bounds) > 0 {
		return 0
	}
	return b.named(name)
}

func (b *builder) named(name string, kids ...int) int {
	return b.put(api.Type{Kind: api.KNamed, Name: "p." + name, Kids: kids})
}

func (b *builder) put(t api.Type) int {
	b.t.Helper()
	u, i, e := unit.Put(b.u, t)
	if e != api.OK {
		b.t.Fatal(t, e)
	}
	b.u = u
	return i
}

func (b *builder) of(kind int, kids ...int) int { return b.put(api.Type{Kind: kind, Kids: kids}) }

func (b *builder) param(n int) int { return b.put(api.Type{Kind: api.KParam, N: n}) }

func (b *builder) structure(words string, kids ...int) int {
	return b.put(api.Type{Kind: api.KStruct, Words: strings.Fields(words), Kids: kids})
}

func (b *builder) iface(n int, words string, kids ...int) int {
	return b.put(api.Type{Kind: api.KIface, N: n, Words: strings.Fields(words), Kids: kids})
}

// fill puts types in, until there are so many.
func (b *builder) fill(n int) api.Unit {
	u := b.u
	for i := 0; len(u.Types) < n; i++ {
		u.Types = append(slices.Clip(u.Types), api.Type{Kind: api.KArray, N: 1000 + i, Kids: []int{2}})
	}
	return u
}

func TestP14_1(t *testing.T) {
	b := newBuilder(t)
	slice, fn, mp := b.of(api.KSlice, 2), b.of(api.KFunc), b.of(api.KMap, 2, 2)
	p0, p1, p2, p3 := b.param(0), b.param(1), b.param(2), b.param(3)
	terms, bad, none := b.iface(2, "= ~", 1, 2), b.iface(2, "= =", 1, slice), b.iface(2, "")
	rows := b.iface(2, "~", b.of(api.KArray, p0))
	S := b.declare("S", nil, b.structure("A B", 1, 2))
	F := b.declare("F", nil, slice)
	b.declare("G", []int{api.YAny}, b.structure("A", p0))
	for _, c := range []struct {
		i      int
		bounds []int
		want   bool
	}{
		{api.YInt, nil, true}, {api.UNil, nil, true}, {api.YAny, nil, true}, {api.YComp, nil, true}, {slice, nil, false}, {fn, nil, false}, {mp, nil, false},
		{b.of(api.KPtr, slice), nil, true}, {b.of(api.KArray, 2), nil, true}, {b.of(api.KArray, slice), nil, false}, {b.of(api.KArray, b.of(api.KArray, fn)), nil, false},
		{b.structure(""), nil, true}, {b.structure("A B", 2, slice), nil, false}, {b.structure("A +B", 2, 1), nil, true},
		{S, nil, true}, {F, nil, false}, {b.structure("+S", S), nil, true}, {b.structure("+S +F", S, F), nil, false},
		{b.named("G", 2), nil, true}, {b.named("G", slice), nil, false}, {b.named("G", p0), nil, false}, {b.named("G", p0), []int{api.YComp}, true},
		{p0, nil, false}, {p0, []int{api.YAny}, false}, {p0, []int{api.YComp}, true}, {p1, []int{api.YComp}, false}, {p1, []int{api.YAny, terms}, true}, {p1, []int{api.YComp, bad}, false}, {p2, []int{0: api.YAny, 1: api.YAny, 2: none}, true},
		{b.of(api.KArray, p1), []int{api.YAny, terms}, true}, {p1, []int{api.YComp, rows}, true}, {p1, []int{api.YAny, rows}, false}, {p0, []int{rows}, true}, {p3, slices.Repeat([]int{api.YComp}, 16), true},
		{b.iface(0, "M", fn), nil, true},
	} {
		if ok, e := Comparable(b.u, c.bounds, c.i); ok != c.want || e != api.OK {
			s, _ := typ.Text(b.u.Types, c.i)
			t.Error(s, c, ok, e)
		}
	}
}

func TestP14Wrong(t *testing.T) {
	b := newBuilder(t)
	bad := api.Unit{Types: b.u.Types[:5]}
	for _, bounds := range [][]int{{-1}, {2}, {22}, slices.Repeat([]int{api.YAny}, 17)} {
		if ok, e := Comparable(b.u, bounds, 99); ok || e != api.ErrArg {
			t.Error(bounds, ok, e)
		}
		if ok, e := Has(b.u, bounds, 99, 99); ok || e != api.ErrArg {
			t.Error(bounds, ok, e)
		}
	}
	if ok, e := Comparable(bad, nil, 99); ok || e != api.ErrArg {
		t.Error(ok, e)
	}
	if ok, e := Has(bad, nil, 99, 99); ok || e != api.ErrArg {
		t.Error(ok, e)
	}
	if u, i, e := Meet(bad, 99, 99); !unit.Like(u, api.Unit{}) || i != 0 || e != api.ErrArg {
		t.Error(i, e)
	}
	for _, i := range []int{-1, 22, 1 << 40} {
		if ok, e := Comparable(b.u, nil, i); ok || e != api.ErrNone {
			t.Error(ok, e)
		}
		if ok, e := Has(b.u, nil, i, 2); ok || e != api.ErrNone {
			t.Error(ok, e)
		}
		if ok, e := Has(b.u, nil, 2, i); ok || e != api.ErrNone {
			t.Error(ok, e)
		}
		if u, n, e := Meet(b.u, i, 2); !unit.Like(u, api.Unit{}) || n != 0 || e != api.ErrNone {
			t.Error(n, e)
		}
		if u, n, e := Meet(b.u, 2, i); !unit.Like(u, api.Unit{}) || n != 0 || e != api.ErrNone {
			t.Error(n, e)
		}
	}
	if ok, e := Has(b.u, nil, 2, 2); ok || e != api.ErrArg {
		t.Error(ok, e)
	}
	for _, c := range [][2]int{{2, api.YAny}, {api.YAny, 2}} {
		if u, n, e := Meet(b.u, c[0], c[1]); !unit.Like(u, api.Unit{}) || n != 0 || e != api.ErrArg {
			t.Error(n, e)
		}
	}
}

func TestP14_2(t *testing.T) {
	b := newBuilder(t)
	fn, fs := b.of(api.KFunc), b.of(api.KFunc, 1)
	slice := b.of(api.KSlice, 2)
	M, N, MN := b.iface(0, "M", fn), b.iface(0, "N", fn), b.iface(0, "M N", fn, fn)
	MC, Ms := b.iface(1, "M", fn), b.iface(0, "M", fs)
	tInt, eInt, two := b.iface(2, "~", 2), b.iface(2, "=", 2), b.iface(2, "= ~", 1, slice)
	none, C := b.iface(2, ""), api.YComp
	I := b.declare("I", nil, 2)
	T := b.declare("T", nil, b.structure("F", 2), api.Method{Name: "M", Sig: fn}, api.Method{Name: "N", Ptr: true, Sig: fn})
	R := b.declare("R", nil, slice, api.Method{Name: "M", Sig: fn})
	J := b.declare("J", nil, M)
	K := b.declare("K", nil, MN)
	tI := b.iface(2, "=", I)
	both := b.iface(3, "M ~", fn, slice)
	p0, p1 := b.param(0), b.param(1)
	rows := b.of(api.KSlice, p0)
	mrows := b.iface(2, "~", rows)
	under := b.iface(2, "=", T)
	for n, c := range []struct {
		i, c   int
		bounds []int
		want   bool
	}{
		{2, api.YAny, nil, true}, {I, tInt, nil, true}, {I, eInt, nil, false}, {2, eInt, nil, true}, {2, tInt, nil, true}, {I, tI, nil, true}, {2, tI, nil, false}, {1, two, nil, true}, {R, two, nil, true}, {slice, two, nil, true}, {2, two, nil, false}, {2, none, nil, false},
		{T, M, nil, true}, {T, N, nil, false}, {b.of(api.KPtr, T), N, nil, true}, {b.of(api.KPtr, T), MN, nil, true}, {T, Ms, nil, false}, {2, M, nil, false}, {b.structure("+T", T), M, nil, true}, {b.structure("+T", T), N, nil, false}, {b.structure("+T", b.of(api.KPtr, T)), N, nil, true}, {b.of(api.KPtr, b.structure("+T", T)), MN, nil, true}, {b.structure("M", fn), M, nil, false},
		{b.structure("+T +R", T, R), M, nil, false},
		{J, M, nil, true}, {J, MN, nil, false}, {K, M, nil, true}, {M, M, nil, true}, {M, MN, nil, false}, {MN, M, nil, true}, {b.of(api.KPtr, J), M, nil, false},
		{J, tInt, nil, false}, {api.YAny, tInt, nil, false}, {M, b.iface(2, "M ~", fn, 2), nil, false},
		{2, C, nil, true}, {slice, C, nil, false}, {J, C, nil, true}, {R, MC, nil, false}, {T, MC, nil, true}, {R, M, nil, true},
		{R, both, nil, false}, {T, both, nil, false}, {T, under, nil, true}, {b.structure("F", 2), under, nil, false},
		{p0, api.YAny, nil, true}, {p0, M, nil, false}, {p0, M, []int{M}, true}, {p0, M, []int{MN}, true}, {p0, M, []int{Ms}, false}, {p1, M, []int{M}, false}, {p1, M, []int{C, MC}, true}, {p0, MC, []int{M}, false}, {p0, MC, []int{MC}, true},
		{p0, tInt, []int{tInt}, true}, {p0, tInt, []int{eInt}, true}, {p0, eInt, []int{tInt}, false}, {p0, tInt, []int{tI}, true}, {p0, eInt, []int{tI}, false}, {p0, tInt, []int{api.YAny}, false}, {p0, tInt, []int{two}, false}, {p0, tInt, []int{none}, true}, {p0, two, []int{two}, true}, {p0, C, []int{tInt}, true}, {p0, C, []int{two}, false}, {p0, tInt, nil, false}, {p0, none, []int{none}, true}, {p0, none, []int{api.YAny}, false},
		{rows, mrows, nil, true}, {p1, mrows, []int{C, mrows}, true},
	} {
		ok, e := Has(b.u, c.bounds, c.i, c.c)
		if ok != c.want || e != api.OK {
			x, _ := typ.Text(b.u.Types, c.i)
			y, _ := typ.Text(b.u.Types, c.c)
			t.Error(n, x, y, ok, e)
		}
	}
}

func TestP14Told(t *testing.T) {
	b := newBuilder(t)
	p := b.param(0)
	fp := b.of(api.KFunc, p)
	fn := b.of(api.KFunc)
	row := b.of(api.KSlice, p)
	G := b.declare("G", []int{api.YAny}, row, api.Method{Name: "M", Sig: fp})
	G = b.named("G", 1)
	slice := b.of(api.KSlice, 1)
	M, MT, TT := b.iface(0, "M", fn), b.iface(2, "M ~", fn, slice), b.iface(2, "~", slice)
	exact, odd := b.iface(2, "=", G), b.iface(0, "_", fn)
	full := b.fill(400)
	// The Under, []string, is there; the method's function isn't.
	for _, c := range []struct {
		i, c int
		want bool
		e    api.Errno
	}{
		{G, M, false, api.ErrMany}, {G, MT, false, api.ErrMany}, {G, TT, true, api.OK}, {G, exact, true, api.OK}, {G, odd, false, api.OK}, {slice, M, false, api.OK},
	} {
		if ok, e := Has(full, nil, c.i, c.c); ok != c.want || e != c.e {
			t.Error(c, ok, e)
		}
	}
	b = newBuilder(t)
	p = b.param(0)
	b.declare("G", []int{api.YAny}, b.of(api.KSlice, p))
	G = b.named("G", 1)
	twice := b.structure("A B", G, G)
	first := b.structure("A B", b.of(api.KSlice, 2), G)
	TT, exact = b.iface(2, "~", 1), b.iface(2, "=", G)
	full = b.fill(400)
	for _, i := range []int{G, twice} {
		if ok, e := Comparable(full, nil, i); ok || e != api.ErrMany {
			t.Error(i, ok, e)
		}
	}
	if ok, e := Comparable(full, nil, first); ok || e != api.OK {
		t.Error(ok, e)
	}
	if ok, e := Has(full, nil, G, TT); ok || e != api.ErrMany {
		t.Error(ok, e)
	}
	// What a term is is asked only if none is = of it.
	if ok, e := Has(full, []int{exact}, p, exact); !ok || e != api.OK {
		t.Error(ok, e)
	}
	if ok, e := Has(full, []int{exact}, p, TT); ok || e != api.ErrMany {
		t.Error(ok, e)
	}
	if u, i, e := Meet(full, exact, TT); !unit.Like(u, api.Unit{}) || i != 0 || e != api.ErrMany {
		t.Error(i, e)
	}
	if _, i, e := Meet(full, exact, exact); i != exact || e != api.OK {
		t.Error(i, e)
	}
}

// TestAsked: a type that has itself is asked once.
func TestAsked(t *testing.T) {
	b := newBuilder(t)
	b.declare("T", nil, 2)
	T := b.named("T")
	self := b.of(api.KArray, T)
	b.u.Named[0].Under = b.structure("A B", self, b.of(api.KPtr, T))
	if ok, e := Comparable(b.u, nil, T); !ok || e != api.OK {
		t.Error(ok, e)
	}
	b = newBuilder(t)
	p := b.param(0)
	b.declare("W", []int{api.YAny}, 2)
	W := b.named("W", b.of(api.KArray, p))
	b.u.Named[0].Under = b.structure("A", W)
	if ok, e := Comparable(b.u, nil, b.named("W", 2)); ok || e != api.ErrMany {
		t.Error(ok, e)
	}
}

func TestP14_3(t *testing.T) {
	b := newBuilder(t)
	fn, fs := b.of(api.KFunc), b.of(api.KFunc, 1)
	slice := b.of(api.KSlice, 2)
	I := b.declare("I", nil, 2)
	M, N, Ms := b.iface(0, "M", fn), b.iface(0, "N", fs), b.iface(0, "M", fs)
	tInt, eInt, many := b.iface(2, "~", 2), b.iface(2, "=", 2), b.iface(2, "= ~ = =", 1, 2, 3, slice)
	named, mixed := b.iface(2, "= =", 1, I), b.iface(3, "M ~ ~", fn, 1, slice)
	none := b.iface(2, "")
	for _, c := range []struct {
		a, b int
		want string
		e    api.Errno
	}{
		{api.YAny, api.YAny, "interface{}", api.OK}, {M, N, "interface{M(); N(string)}", api.OK}, {N, M, "interface{M(); N(string)}", api.OK}, {M, Ms, "", api.ErrTwice}, {M, M, "interface{M()}", api.OK}, {M, api.YComp, "interface{comparable; M()}", api.OK},
		{tInt, M, "interface{M(); ~int}", api.OK}, {N, eInt, "interface{N(string); int}", api.OK}, {tInt, eInt, "interface{int}", api.OK}, {eInt, tInt, "interface{int}", api.OK}, {tInt, tInt, "interface{~int}", api.OK},
		{many, tInt, "interface{~int}", api.OK}, {many, eInt, "interface{int}", api.OK}, {many, mixed, "interface{comparable; M(); string | []int}", api.OK}, {named, tInt, "interface{p.I}", api.OK}, {tInt, named, "interface{p.I}", api.OK}, {named, many, "interface{string | p.I}", api.OK}, {named, eInt, "interface{none}", api.OK}, {eInt, b.iface(2, "=", 1), "interface{none}", api.OK}, {none, many, "interface{none}", api.OK}, {api.YComp, none, "interface{comparable; none}", api.OK}, {api.YAny, many, "interface{string | ~int | int8 | []int}", api.OK}, {mixed, api.YAny, "interface{comparable; M(); ~string | ~[]int}", api.OK},
	} {
		u, i, e := Meet(b.u, c.a, c.b)
		s, _ := typ.Text(u.Types, i)
		if e != api.OK && !unit.Like(u, api.Unit{}) {
			t.Error(c)
		}
		if e == api.OK && s != c.want || e != c.e || e == api.OK && !unit.Right(u) {
			t.Error(c, s, e)
		}
	}
	// Put in, if it is not there.
	n := len(b.u.Types)
	if u, i, e := Meet(b.u, M, api.YAny); i != M || len(u.Types) != n || e != api.OK {
		t.Error(i, e)
	}
	if u, i, e := Meet(b.u, M, N); i != n || len(u.Types) != n+1 || e != api.OK {
		t.Error(i, e)
	}
	if u, i, e := Meet(b.fill(400), M, N); i != 0 || e != api.ErrMany || !unit.Like(u, api.Unit{}) {
		t.Error(i, e)
	}
	// More methods than a type may have.
	x := b.iface(0, "a b c d e f g h i", slices.Repeat([]int{fn}, 9)...)
	y := b.iface(0, "j k l m n o p q r", slices.Repeat([]int{fn}, 9)...)
	if u, i, e := Meet(b.u, x, y); i != 0 || e != api.ErrArg || !unit.Like(u, api.Unit{}) {
		t.Error(i, e)
	}
	if u, i, e := Meet(b.fill(400), M, Ms); i != 0 || e != api.ErrTwice || !unit.Like(u, api.Unit{}) {
		t.Error(i, e)
	}
}

func TestP14_4(t *testing.T) {
	b := newBuilder(t)
	fn := b.of(api.KFunc)
	slice, ptr := b.of(api.KSlice, 2), b.of(api.KPtr, 2)
	I := b.declare("I", nil, 2, api.Method{Name: "M", Sig: fn})
	S := b.declare("S", nil, slice, api.Method{Name: "M", Sig: fn}, api.Method{Name: "N", Ptr: true, Sig: fn})
	types := []int{1, 2, 3, slice, ptr, I, S, b.of(api.KPtr, S), b.structure("A", 2), api.YAny, fn}
	constraints := []int{api.YAny, api.YComp, b.iface(0, "M", fn), b.iface(0, "M N", fn, fn), b.iface(2, "~", 2), b.iface(2, "= =", 2, I), b.iface(3, "= ~", 1, slice), b.iface(2, "M ~ ~", fn, 2, slice), b.iface(2, ""), b.iface(2, "= ~", slice, ptr)}
	has := func(u api.Unit, i, c int) bool {
		ok, e := Has(u, nil, i, c)
		if e != api.OK {
			t.Fatal(e)
		}
		return ok
	}
	for _, x := range constraints {
		for _, y := range constraints {
			u, m, e := Meet(b.u, x, y)
			if e != api.OK {
				t.Fatal(x, y, e)
			}
			v, n, _ := Meet(b.u, y, x)
			if !unit.Like(u, v) || m != n {
				t.Error(x, y, "turned about")
			}
			for _, i := range types {
				if has(u, i, m) != (has(u, i, x) && has(u, i, y)) {
					t.Error(i, x, y)
				}
			}
		}
		if u, m, e := Meet(b.u, x, x); m != x || e != api.OK || !unit.Like(u, b.u) {
			t.Error(x, m)
		}
		if u, m, e := Meet(b.u, api.YAny, x); m != x || e != api.OK || !unit.Like(u, b.u) {
			t.Error(x, m)
		}
	}
}

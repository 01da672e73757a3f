package typ

import (
	"math/rand"
	"slices"
	"strings"
	"testing"

	"indenture/api"
)

// with is the basic arena, and types behind it, as they are.
func with(l ...api.Type) []api.Type { return append(Start(), l...) }

// add puts types in, and tells the last one's place.
func add(t *testing.T, l ...api.Type) ([]api.Type, int) {
	t.Helper()
	a, i := Start(), 0
	for _, x := range l {
		var e api.Errno
		if a, i, e = Add(a, x); e != api.OK {
			t.Fatal(x, e)
		}
	}
	return a, i
}

func of(kind int, kids ...int) api.Type { return api.Type{Kind: kind, Kids: kids} }

func words(kind, n int, words string, kids ...int) api.Type {
	return api.Type{Kind: kind, N: n, Words: strings.Fields(words), Kids: kids}
}

func named(name string, kids ...int) api.Type {
	return api.Type{Kind: api.KNamed, Name: name, Kids: kids}
}

func many(n, kid int) []int { return slices.Repeat([]int{kid}, n) }

var letters = strings.Split("a b c d e f g h i j k l m n o p q", " ")

func TestP10_1(t *testing.T) {
	names := strings.Split("bool,string,int,int8,int16,int32,int64,uint,uint8,uint16,uint32,uint64,float32,float64,untyped bool,untyped string,untyped int,untyped rune,untyped float,untyped nil", ",")
	l := Start()
	if len(l) != api.YBasics || !Right(l) {
		t.Fatal(l)
	}
	for i, name := range names {
		if !same(l[i], api.Type{Name: name}) {
			t.Error(i, l[i])
		}
	}
	if !same(l[api.YAny], of(api.KIface)) || !same(l[api.YComp], api.Type{Kind: api.KIface, N: 1}) {
		t.Error(l[api.YAny:])
	}
	for i := range l {
		m := Start()
		m[i].N++
		if Right(m) || Right(l[:i]) {
			t.Error(i)
		}
	}
	if m := Start(); Right(append(m, m[0])) || Right(append(m, m[api.YAny])) {
		t.Error("twice")
	}
}

func TestP10_1Made(t *testing.T) {
	fn, fn1 := of(api.KFunc), of(api.KFunc, 2) // 22, 23
	for _, c := range []struct {
		t  api.Type
		ok bool
	}{
		{of(api.KPtr, 2), true}, {of(api.KPtr), false}, {of(api.KPtr, 2, 2), false}, {of(api.KPtr, -1), false}, {of(api.KPtr, 24), false}, {of(api.KPtr, 23), true},
		{api.Type{Kind: api.KPtr, Kids: []int{2}, N: 1}, false}, {api.Type{Kind: api.KPtr, Kids: []int{2}, Name: "x"}, false}, {words(api.KPtr, 0, "x", 2), false},
		{of(api.KSlice, 0), true}, {of(api.KSlice), false}, {api.Type{Kind: api.KSlice, Kids: []int{2}, N: 1}, false},
		{api.Type{Kind: api.KArray, Kids: []int{2}, N: 1 << 31}, true}, {api.Type{Kind: api.KArray, Kids: []int{2}, N: 1<<31 + 1}, false}, {api.Type{Kind: api.KArray, Kids: []int{2}, N: -1}, false}, {of(api.KArray, 2), true}, {of(api.KArray), false},
		{of(api.KMap, 2, 2), true}, {of(api.KMap, 2), false}, {of(api.KMap, 2, 2, 2), false}, {api.Type{Kind: api.KMap, Kids: []int{2, 2}, N: 1}, false},
		{of(api.KFunc, many(16, 2)...), true}, {of(api.KFunc, many(17, 2)...), false}, {api.Type{Kind: api.KFunc, N: 1, Kids: []int{2}}, true}, {api.Type{Kind: api.KFunc, N: 1}, false}, {api.Type{Kind: api.KFunc, N: 2, Kids: []int{2}}, false}, {words(api.KFunc, 0, "x", 2), false},
		{words(api.KStruct, 0, ""), true}, {words(api.KStruct, 0, "a +b _ _ +_", 1, 2, 3, 4, 5), true}, {words(api.KStruct, 0, "a a", 1, 2), false}, {words(api.KStruct, 0, "a +a", 1, 2), false}, {words(api.KStruct, 0, "a", 1, 2), false}, {words(api.KStruct, 0, "a b", 1), false}, {words(api.KStruct, 1, "a", 1), false}, {words(api.KStruct, 0, "++a", 1), false}, {words(api.KStruct, 0, "+", 1), false}, {words(api.KStruct, 0, "1", 1), false}, {words(api.KStruct, 0, "=", 1), false},
		{words(api.KStruct, 0, strings.Repeat("_ ", 16), many(16, 1)...), true}, {words(api.KStruct, 0, strings.Repeat("_ ", 17), many(17, 1)...), false}, {words(api.KStruct, 0, strings.Repeat("a", 21), 1), false}, {api.Type{Kind: api.KStruct, Name: "s"}, false}, {api.Type{Kind: api.KStruct, Words: []string{""}, Kids: []int{1}}, false},
		{words(api.KIface, 2, ""), true}, {words(api.KIface, 3, ""), true}, {words(api.KIface, 4, ""), false}, {words(api.KIface, -1, ""), false}, {words(api.KIface, 0, "m", 22), true}, {words(api.KIface, 1, "m", 22), true}, {words(api.KIface, 0, "m", 2), false}, {words(api.KIface, 0, "a b", 23, 22), true}, {words(api.KIface, 0, "b a", 22, 23), false}, {words(api.KIface, 0, "a a", 22, 23), false}, {words(api.KIface, 0, "B a _", 22, 22, 22), false}, {words(api.KIface, 0, "B _ a", 22, 22, 22), true},
		{words(api.KIface, 2, "= ~", 2, 3), true}, {words(api.KIface, 0, "=", 2), false}, {words(api.KIface, 1, "~", 2), false}, {words(api.KIface, 3, "~", 2), true}, {words(api.KIface, 2, "= ~", 3, 2), false}, {words(api.KIface, 2, "= ~", 2, 2), false}, {words(api.KIface, 2, "m =", 23, 2), true}, {words(api.KIface, 2, "= m", 2, 23), false}, {words(api.KIface, 2, "m = n", 22, 2, 22), false},
		{words(api.KIface, 2, "=", api.YAny), false}, {words(api.KIface, 2, "=", api.UBool), false}, {words(api.KIface, 2, "~", api.UNil), false}, {words(api.KIface, 2, "=", api.YFloat64), true}, {words(api.KIface, 0, "m"), false}, {words(api.KIface, 0, "", 22), false}, {api.Type{Kind: api.KIface, Name: "i", N: 2}, false}, {words(api.KIface, 2, "==", 2), false},
		{words(api.KIface, 2, strings.Repeat("= ", 14), 0, 1, 2, 3, 4, 5, 6, 7, 8, 9, 10, 11, 12, 13), true}, {words(api.KIface, 0, strings.Join(letters, " "), many(17, 22)...), false}, {words(api.KIface, 0, strings.Join(letters[:16], " "), many(16, 22)...), true},
		{named("p.T"), true}, {named("p.T", many(16, 1)...), true}, {named("p.T", many(17, 1)...), false}, {named("T"), false}, {named("p.T.U"), false}, {named(".T"), false}, {named("p."), false}, {named(""), false}, {named("p.1"), false}, {named("_._"), true}, {named(strings.Repeat("a", 20) + "." + strings.Repeat("b", 20)), true}, {named(strings.Repeat("a", 21) + ".b"), false}, {api.Type{Kind: api.KNamed, Name: "p.T", N: 1}, false}, {api.Type{Kind: api.KNamed, Name: "p.T", Words: []string{"a"}}, false},
		{api.Type{Kind: api.KParam, N: 15}, true}, {api.Type{Kind: api.KParam, N: 16}, false}, {api.Type{Kind: api.KParam, N: -1}, false}, {of(api.KParam, 1), false}, {api.Type{Kind: api.KParam, Name: "A"}, false}, {words(api.KParam, 0, "a"), false},
		{api.Type{Name: "complex"}, false}, {api.Type{Kind: 10}, false}, {api.Type{Kind: -1}, false},
	} {
		if Right(with(fn, fn1, c.t)) != c.ok {
			t.Error("Right", c)
		}
		l, i, e := Add(with(fn, fn1), c.t)
		if c.ok && (i != 24 || e != api.OK || !Right(l) || !same(l[24], c.t)) || !c.ok && (l != nil || i != 0 || e != api.ErrArg) {
			t.Error("Add", c, i, e)
		}
	}
	// A param is none of a term's types.
	if Right(with(of(api.KParam), words(api.KIface, 2, "=", 22))) || !Right(with(of(api.KParam), of(api.KSlice, 22), words(api.KIface, 2, "=", 23))) {
		t.Error("terms of params")
	}
	if Right(with(of(api.KPtr, 22))) || Right(with(of(api.KPtr, 23), of(api.KPtr, 2))) {
		t.Error("kids behind")
	}
}

func TestP10_2(t *testing.T) {
	if l, i, e := Add(with(of(api.KPtr)), of(api.KPtr, 2)); l != nil || i != 0 || e != api.ErrArg {
		t.Error(l, i, e)
	}
	if l, i, e := Add(nil, Start()[0]); l != nil || i != 0 || e != api.ErrArg {
		t.Error(l, i, e)
	}
	for i, x := range Start() {
		if l, k, e := Add(Start(), x); len(l) != api.YBasics || k != i || e != api.OK {
			t.Error(i, k, e)
		}
	}
	full := Start()
	for len(full) < api.MaxTypes {
		full = append(full, of(api.KPtr, len(full)-1))
	}
	if !Right(full) || Right(append(full, of(api.KPtr, 399))) {
		t.Error("400")
	}
	if l, i, e := Add(full, of(api.KSlice, 2)); l != nil || i != 0 || e != api.ErrMany {
		t.Error(i, e)
	}
	if l, i, e := Add(full, of(api.KSlice, 400)); l != nil || i != 0 || e != api.ErrArg {
		t.Error(i, e)
	}
	if l, i, e := Add(full, full[399]); len(l) != 400 || i != 399 || e != api.OK {
		t.Error(i, e)
	}
	// Words that are no names, but make up the same text as others.
	two := with(words(api.KStruct, 0, "a b", 1, 2))
	if l, i, e := Add(two, api.Type{Kind: api.KStruct, Words: []string{"a b", ""}, Kids: []int{1, 2}}); l != nil || i != 0 || e != api.ErrArg {
		t.Error(i, e)
	}
	// Nothing is written behind the end, nor shared with what is put in.
	room := append(make([]api.Type, 0, 100), Start()...)
	x := words(api.KStruct, 0, "a", 2)
	a, _, _ := Add(room, x)
	b, _, _ := Add(room, of(api.KPtr, 3))
	x.Words[0], x.Kids[0] = "z", 9
	if a[22].Kind != api.KStruct || a[22].Words[0] != "a" || a[22].Kids[0] != 2 || b[22].Kind != api.KPtr || room[:23][22].Kind != 0 {
		t.Error(a[22], b[22])
	}
}

func TestP10_3Text(t *testing.T) {
	l := with(
		of(api.KPtr, 2),    // 22
		of(api.KSlice, 22), // 23
		of(api.KFunc),      // 24
		api.Type{Kind: api.KFunc, N: 1, Kids: []int{2}},        // 25
		api.Type{Kind: api.KFunc, N: 1, Kids: []int{1, 2, 23}}, // 26
		of(api.KFunc, 1, 0),                                 // 27
		words(api.KStruct, 0, ""),                           // 28
		words(api.KStruct, 0, "a +B", 2, 23),                // 29
		words(api.KIface, 2, ""),                            // 30
		words(api.KIface, 3, "m n = ~ ~", 24, 26, 2, 3, 22), // 31
		words(api.KIface, 1, "m", 27),                       // 32
		words(api.KIface, 0, "m n", 24, 25),                 // 33
		named("p.T"),                                        // 34
		named("p.U", 34, 2),                                 // 35
		api.Type{Kind: api.KParam, N: 3},                    // 36
		of(api.KMap, 1, 36),                                 // 37
		api.Type{Kind: api.KArray, N: 7, Kids: []int{37}},   // 38
		words(api.KIface, 3, ""),                            // 39
	)
	for i, want := range map[int]string{
		0: "bool", api.UNil: "untyped nil", api.YAny: "interface{}", api.YComp: "interface{comparable}", 22: "*int", 23: "[]*int", 24: "func()", 25: "func() int", 26: "func(string, int) []*int", 27: "func(string, bool)", 28: "struct{}", 29: "struct{a int; +B []*int}", 30: "interface{none}", 31: "interface{comparable; m(); n(string, int) []*int; int | ~int8 | ~*int}", 32: "interface{comparable; m(string, bool)}", 33: "interface{m(); n() int}", 34: "p.T", 35: "p.U[p.T, int]", 36: "#3", 37: "map[string]#3", 38: "[7]map[string]#3", 39: "interface{comparable; none}",
	} {
		if s, e := Text(l, i); s != want || e != api.OK {
			t.Error(i, s, e)
		}
	}
	for _, i := range []int{-1, 40, 1 << 50} {
		if s, e := Text(l, i); s != "" || e != api.ErrNone {
			t.Error(i, s, e)
		}
	}
	for _, bad := range [][]api.Type{nil, with(of(api.KPtr))} {
		if s, e := Text(bad, 99); s != "" || e != api.ErrArg {
			t.Error(s, e)
		}
	}
	// The size doubles with each.
	twice := Start()
	twice = append(twice, of(api.KMap, 2, 2))
	for len(twice) < 100 {
		twice = append(twice, of(api.KMap, len(twice)-1, len(twice)-1))
	}
	long := 0
	for i := 22; i < 100; i++ {
		s, e := Text(twice, i)
		long = 5 + 2*max(long, 3)
		if long > 4000 && (s != "" || e != api.ErrMany) || long <= 4000 && (len(s) != long || e != api.OK) {
			t.Error(i, len(s), e)
		}
		long = min(long, 4001)
	}
	// Of 4000 bytes, and of one more.
	row := Start()
	for i := range 300 {
		row = append(row, of(api.KSlice, 21+max(i, 0)))
	}
	row[22] = of(api.KSlice, 2)
	wide := append(slices.Clone(row), words(api.KStruct, 0, strings.Join(letters[:8], " "), many(8, 255)...))
	size := func(l []api.Type) int { s, _ := Text(l, len(l)-1); return len(s) }
	base := size(wide)
	if base < 3000 || base > 3995 {
		t.Fatal(base)
	}
	wide[len(wide)-1].Words[0] = "a"
	for extra := 0; extra < 4010-base; extra++ {
		l := slices.Clone(wide)
		l[len(l)-1].Words = slices.Clone(l[len(l)-1].Words)
		left := extra
		for i := range l[len(l)-1].Words {
			n := min(left, 19)
			l[len(l)-1].Words[i] += strings.Repeat("x", n)
			left -= n
		}
		if left > 0 {
			break
		}
		s, e := Text(l, len(l)-1)
		if base+extra > 4000 && (s != "" || e != api.ErrMany) || base+extra <= 4000 && (len(s) != base+extra || e != api.OK) {
			t.Error(extra, len(s), e)
		}
	}
}

// random is an arena of random types.
func random(t *testing.T, r *rand.Rand) []api.Type {
	l := Start()
	for range r.Intn(40) {
		kid := func() int { return []int{2, 3, r.Intn(len(l)), len(l) - 1}[r.Intn(4)] }
		var x api.Type
		switch r.Intn(9) {
		case 0, 1:
			x = of(api.KPtr+r.Intn(2), kid())
		case 2:
			x = of(api.KMap, kid(), kid())
		case 3:
			x = api.Type{Kind: api.KFunc, N: r.Intn(2), Kids: []int{kid(), kid()}}
		case 4:
			x = words(api.KStruct, 0, []string{"a b", "+a b", "a _"}[r.Intn(3)], kid(), kid())
		case 5:
			x = api.Type{Kind: api.KIface, N: r.Intn(4)}
			if k := kid(); x.N >= 2 && term(l, k) {
				x.Words, x.Kids = []string{[]string{"=", "~"}[r.Intn(2)]}, []int{k}
				if m := kid(); m > k && term(l, m) {
					x.Words, x.Kids = append(x.Words, "="), append(x.Kids, m)
				}
			}
			if k := kid(); l[k].Kind == api.KFunc {
				x.Words, x.Kids = slices.Insert(x.Words, 0, "m"), slices.Insert(x.Kids, 0, k)
			}
		case 6:
			x = named([]string{"p.T", "p.U"}[r.Intn(2)])
			if r.Intn(2) == 0 {
				x.Kids = []int{kid()}
			}
		case 7:
			x = api.Type{Kind: api.KParam, N: r.Intn(3)}
		case 8:
			x = api.Type{Kind: api.KArray, N: r.Intn(3), Kids: []int{kid()}}
		}
		m, i, e := Add(l, x)
		if e != api.OK || !same(m[i], x) || len(m) > len(l)+1 || !Right(m) {
			t.Fatal(x, i, e)
		}
		l = m
	}
	return l
}

// one tells as the chapter does whether two types are one.
func one(a []api.Type, i int, b []api.Type, k int) bool {
	x, y := a[i], b[k]
	if x.Kind != y.Kind || x.Name != y.Name || x.N != y.N || !slices.Equal(x.Words, y.Words) || len(x.Kids) != len(y.Kids) {
		return false
	}
	for n := range x.Kids {
		if !one(a, x.Kids[n], b, y.Kids[n]) {
			return false
		}
	}
	return true
}

func TestP10_3Same(t *testing.T) {
	r := rand.New(rand.NewSource(1))
	count := 0
	for range 1000 {
		a, b := random(t, r), random(t, r)
		for range 15 {
			i, k := r.Intn(len(a)), r.Intn(len(b))
			if len(a) > 24 && len(b) > 24 {
				i, k = 22+r.Intn(3), 22+r.Intn(3)
			}
			ok, e := Same(a, i, b, k)
			if e != api.OK || ok != one(a, i, b, k) {
				t.Fatal(a[i], b[k], ok, e)
			}
			if ok && i >= api.YBasics {
				count++
			}
		}
	}
	if count < 20 {
		t.Error("too few are one", count)
	}
	// Terms that stand in another order are others.
	a := with(of(api.KPtr, 2), of(api.KSlice, 2), words(api.KIface, 2, "= =", 22, 23))
	b := with(of(api.KSlice, 2), of(api.KPtr, 2), words(api.KIface, 2, "= =", 22, 23))
	if ok, e := Same(a, 24, b, 24); ok || e != api.OK {
		t.Error(ok, e)
	}
	if ok, e := Same(a, 22, b, 23); !ok || e != api.OK {
		t.Error(ok, e)
	}
	for _, c := range [][2]int{{-1, 0}, {0, -1}, {25, 0}, {0, 25}} {
		if ok, e := Same(a, c[0], b, c[1]); ok || e != api.ErrNone {
			t.Error(c, ok, e)
		}
		if ok, e := Same(nil, c[0], b, c[1]); ok || e != api.ErrArg {
			t.Error(c, ok, e)
		}
		if ok, e := Same(a, c[0], a[:3], c[1]); ok || e != api.ErrArg {
			t.Error(c, ok, e)
		}
	}
}

func TestP10_4(t *testing.T) {
	l, i := add(t, of(api.KSlice, 2))
	if s, e := Text(l, i); s != "[]int" || e != api.OK {
		t.Error(s, e)
	}
	r := rand.New(rand.NewSource(2))
	for range 500 {
		l := random(t, r)
		i, k := r.Intn(len(l)), r.Intn(len(l))
		if ok, _ := Same(l, i, l, k); ok != (i == k) {
			t.Fatal(i, k)
		}
		m := random(t, r)
		k = r.Intn(len(m))
		if ok, _ := Same(l, i, m, k); ok {
			x, e := Text(l, i)
			y, e1 := Text(m, k)
			if x != y || e != e1 {
				t.Fatal(x, y)
			}
		}
	}
}

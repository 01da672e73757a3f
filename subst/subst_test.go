package subst

import (
	"math/rand"
	"slices"
	"strings"
	"testing"

	"indenture/api"
	"indenture/typ"
)

// arena is the basic types, and others behind them.
func arena(t *testing.T, l ...api.Type) []api.Type {
	t.Helper()
	a := append(typ.Start(), l...)
	if !typ.Right(a) {
		t.Fatal("no arena", l)
	}
	return a
}

func of(kind int, kids ...int) api.Type { return api.Type{Kind: kind, Kids: kids} }

func param(n int) api.Type { return api.Type{Kind: api.KParam, N: n} }

func words(kind, n int, words string, kids ...int) api.Type {
	return api.Type{Kind: kind, N: n, Words: strings.Fields(words), Kids: kids}
}

func text(l []api.Type, i int) string {
	s, _ := typ.Text(l, i)
	return s
}

func TestP11_1(t *testing.T) {
	l := arena(t, param(0), param(3), of(api.KMap, 2, 22), of(api.KFunc, 24, 23), of(api.KSlice, 2), param(15), words(api.KIface, 2, "=", 24))
	for i, want := range map[int]int{0: 0, 20: 0, 22: 1, 23: 4, 24: 1, 25: 4, 26: 0, 27: 16, 28: 1} {
		if n, e := Params(l, i); n != want || e != api.OK {
			t.Error(i, n, e)
		}
	}
	for _, i := range []int{-1, 29, 1 << 40} {
		if n, e := Params(l, i); n != 0 || e != api.ErrNone {
			t.Error(i, n, e)
		}
		if n, e := Params(l[:10], i); n != 0 || e != api.ErrArg {
			t.Error(i, n, e)
		}
	}
}

func TestP11_2(t *testing.T) {
	l := arena(t, param(0), param(1), of(api.KSlice, 23), of(api.KMap, 22, 24)) // map[#0][]#1
	m, i, e := Subst(l, 25, []int{1, 2})
	if text(m, i) != "map[string][]int" || i != 27 || len(m) != 28 || e != api.OK {
		t.Error(text(m, i), i, e)
	}
	for _, c := range []struct {
		i    int
		args []int
		e    api.Errno
	}{
		{-1, nil, api.ErrNone}, {26, []int{99}, api.ErrNone}, {25, []int{1}, api.ErrArg}, {25, nil, api.ErrArg}, {25, []int{1, 26}, api.ErrArg}, {25, []int{-1, 1}, api.ErrArg}, {25, []int{1, 2, 26}, api.ErrArg}, {2, []int{26}, api.ErrArg}, {23, []int{1}, api.ErrArg},
		{2, []int{25}, api.OK}, {25, []int{1, 2, 3}, api.OK}, {22, []int{7}, api.OK},
	} {
		m, i, e := Subst(l, c.i, c.args)
		if e != c.e || e != api.OK && (m != nil || i != 0) {
			t.Error(c, i, e)
		}
		if m, i, e := Subst(l[:3], c.i, c.args); m != nil || i != 0 || e != api.ErrArg {
			t.Error(c, i, e)
		}
	}
	if m, i, e := Subst(l, 22, []int{7}); len(m) != 26 || i != 7 || e != api.OK {
		t.Error(i, e)
	}
	if m, i, e := Subst(l, 2, []int{7}); len(m) != 26 || i != 2 || e != api.OK {
		t.Error(i, e)
	}
}

func TestP11_2Order(t *testing.T) {
	// In the order of what they stand instead of: first []#0, then *#0, then what has both.
	l := arena(t, param(0), of(api.KSlice, 22), of(api.KPtr, 22), of(api.KSlice, 2), words(api.KStruct, 0, "a b c", 24, 23, 25))
	m, i, e := Subst(l, 26, []int{5})
	var got []string
	for k := 27; k < len(m); k++ {
		got = append(got, text(m, k))
	}
	if want := []string{"[]int32", "*int32", "struct{a *int32; b []int32; c []int}"}; !slices.Equal(got, want) || i != 29 || e != api.OK {
		t.Error(got, i, e)
	}
	// What is no part of it is not put in; what is there is not put in again.
	l = arena(t, param(0), of(api.KSlice, 22), of(api.KPtr, 22), of(api.KPtr, 2), of(api.KSlice, 24))
	if m, i, e := Subst(l, 26, []int{2}); len(m) != 28 || text(m, i) != "[]*int" || e != api.OK {
		t.Error(len(m), text(m, i), e)
	}
}

func TestP11_2Terms(t *testing.T) {
	// 24 []int, 25 []#0, 26 []#1, 27 *#0
	l := arena(t, param(0), param(1), of(api.KSlice, 2), of(api.KSlice, 22), of(api.KSlice, 23), of(api.KPtr, 22), of(api.KFunc, 23),
		words(api.KIface, 3, "m = = ~ = =", 28, 2, 24, 25, 26, 27))
	for _, c := range []struct {
		a, b int
		want string
	}{
		{2, 2, "interface{comparable; m(int); int | ~[]int | *int}"},
		{3, 2, "interface{comparable; m(int); int | []int | ~[]int8 | *int8}"},
		{2, 3, "interface{comparable; m(int8); int | ~[]int | []int8 | *int}"},
		{3, 3, "interface{comparable; m(int8); int | []int | ~[]int8 | *int8}"},
		{23, 22, "interface{comparable; m(#0); int | []int | []#0 | ~[]#1 | *#1}"},
	} {
		m, i, e := Subst(l, 29, []int{c.a, c.b})
		if e != api.OK || !typ.Right(m) || text(m, i) != c.want {
			t.Error(c, text(m, i), e)
		}
	}
	// A type that is there already may stand ahead of others.
	l = arena(t, param(0), of(api.KPtr, 22), of(api.KPtr, 5), of(api.KSlice, 2), words(api.KIface, 2, "~ =", 23, 25))
	if m, i, e := Subst(l, 26, []int{5}); text(m, i) != "interface{~*int32 | []int}" || e != api.OK {
		t.Error(text(m, i), e)
	}
	l = arena(t, param(0), of(api.KPtr, 22), of(api.KSlice, 2), words(api.KIface, 2, "~ =", 23, 24))
	if m, i, e := Subst(l, 25, []int{5}); text(m, i) != "interface{[]int | ~*int32}" || e != api.OK {
		t.Error(text(m, i), e)
	}
}

func TestP11_2Many(t *testing.T) {
	l := arena(t, param(0), of(api.KSlice, 22), of(api.KPtr, 23))
	for len(l) < 399 {
		l = append(l, of(api.KPtr, len(l)-1))
	}
	if m, i, e := Subst(l, 24, []int{2}); m != nil || i != 0 || e != api.ErrMany {
		t.Error(len(m), i, e)
	}
	if m, i, e := Subst(l, 23, []int{2}); len(m) != 400 || i != 399 || e != api.OK {
		t.Error(len(m), i, e)
	}
}

// random is an arena of random types, of which some have params.
func random(r *rand.Rand) []api.Type {
	l := append(typ.Start(), param(0), param(1), param(2), of(api.KFunc, 22))
	for range r.Intn(25) {
		kid := func() int { return []int{2, 22 + r.Intn(3), r.Intn(len(l)), len(l) - 1}[r.Intn(4)] }
		var x api.Type
		switch r.Intn(6) {
		case 0, 1:
			x = of(api.KPtr+r.Intn(2), kid())
		case 2:
			x = of(api.KMap, kid(), kid())
		case 3:
			x = api.Type{Kind: api.KNamed, Name: "p.T", Kids: []int{kid()}}
		case 4:
			x = words(api.KStruct, 0, "a +b", kid(), kid())
		case 5:
			x = words(api.KIface, 2, "~ =", kid(), kid())
			slices.Sort(x.Kids)
		}
		if m, _, e := typ.Add(l, x); e == api.OK {
			l = m
		}
	}
	return l
}

// instead is a type's text with others instead, its terms in any order, as the chapter tells it.
func instead(l []api.Type, i int, args []int) string {
	t := l[i]
	if t.Kind == api.KParam && args != nil {
		return instead(l, args[t.N], nil)
	}
	if len(t.Kids) == 0 {
		return text(l, i)
	}
	var kids []string
	for n, k := range t.Kids {
		s := instead(l, k, args)
		if len(t.Words) > 0 {
			s = t.Words[n] + " " + s
		}
		kids = append(kids, s)
	}
	if t.Kind == api.KIface {
		slices.Sort(kids)
		if len(kids) == 2 && kids[0][1:] == kids[1][1:] {
			kids = kids[1:]
		}
	}
	return string(rune('A'+t.Kind)) + t.Name + "(" + strings.Join(kids, ",") + ")"
}

func TestP11_3(t *testing.T) {
	r := rand.New(rand.NewSource(1))
	for range 4000 {
		l := random(r)
		i := r.Intn(len(l))
		args := []int{r.Intn(len(l)), r.Intn(len(l)), r.Intn(len(l))}
		before := slices.Clone(l)
		m, k, e := Subst(l, i, args)
		many, _ := Params(l, i)
		if e != api.OK || !typ.Right(m) || !slices.EqualFunc(l, before, func(a, b api.Type) bool { return a.Kind == b.Kind && slices.Equal(a.Kids, b.Kids) }) {
			t.Fatal(l, i, e)
		}
		if many == 0 && (k != i || len(m) != len(l)) {
			t.Fatal("stays", i, k)
		}
		if id, n, _ := Subst(l, i, []int{22, 23, 24}); n != i || len(id) != len(l) {
			t.Fatal("itself", i, n)
		}
		if a, b := instead(l, i, args), instead(m, k, nil); a != b {
			t.Fatal(text(l, i), args, a, b)
		}
		// In two steps.
		second := []int{r.Intn(len(l)), r.Intn(len(l)), r.Intn(len(l))}
		two, x, e1 := Subst(m, k, second)
		both := slices.Clone(args)
		once := m
		for n, a := range args {
			if once, both[n], e = Subst(once, a, second); e != api.OK {
				t.Fatal(e)
			}
		}
		one, y, e2 := Subst(once, i, both)
		if e1 != e2 {
			t.Fatal(e1, e2)
		}
		if same, _ := typ.Same(two, x, one, y); !same && !strings.Contains(text(two, x), "|") {
			t.Fatal(text(two, x), text(one, y))
		}
	}
}

package unit

import (
	"fmt"
	"slices"
	"strings"
	"testing"

	"indenture/api"
	"indenture/typ"
)

func of(kind int, kids ...int) api.Type { return api.Type{Kind: kind, Kids: kids} }

func param(n int) api.Type { return api.Type{Kind: api.KParam, N: n} }

func called(name string, kids ...int) api.Type {
	return api.Type{Kind: api.KNamed, Name: name, Kids: kids}
}

func words(kind, n int, words string, kids ...int) api.Type {
	return api.Type{Kind: kind, N: n, Words: strings.Fields(words), Kids: kids}
}

// with is the basic types, and others behind them.
func with(l ...api.Type) []api.Type { return append(typ.Start(), l...) }

func text(u api.Unit, i int) string {
	s, _ := typ.Text(u.Types, i)
	return s
}

// sample is a unit of a type without params, p.A, an interface, p.I, and one of two, p.T.
func sample() api.Unit {
	return api.Unit{
		Types: with(
			param(0),                            // 22
			param(1),                            // 23
			of(api.KFunc),                       // 24
			of(api.KFunc, 22),                   // 25
			of(api.KFunc, 23, 22),               // 26
			of(api.KMap, 22, 23),                // 27
			words(api.KStruct, 0, "X", 2),       // 28
			words(api.KIface, 0, "M N", 24, 24), // 29
			called("p.A"),                       // 30
			called("p.T", 1, 30),                // 31
			called("p.I"),                       // 32
			words(api.KIface, 3, "M ~", 24, 2),  // 33
		),
		Named: []api.Named{
			{Name: "p.A", Under: 28, Methods: []api.Method{{Name: "F", Sig: 24}, {Name: "G", Ptr: true, Sig: 24}}},
			{Name: "p.I", Under: 29},
			{Name: "p.T", Bounds: []int{api.YComp, api.YAny}, Under: 27, Methods: []api.Method{{Name: "M", Ptr: true, Sig: 26}, {Name: "a", Sig: 25}}},
		},
	}
}

// clone shares nothing with a unit.
func clone(u api.Unit) api.Unit {
	u.Types = slices.Clone(u.Types)
	for i, t := range u.Types {
		u.Types[i].Kids, u.Types[i].Words = slices.Clone(t.Kids), slices.Clone(t.Words)
	}
	u.Named = slices.Clone(u.Named)
	for i, n := range u.Named {
		u.Named[i].Bounds, u.Named[i].Methods = slices.Clone(n.Bounds), slices.Clone(n.Methods)
	}
	return u
}

func TestP12_1(t *testing.T) {
	if !Right(sample()) || Right(api.Unit{}) || !Right(api.Unit{Types: typ.Start()}) {
		t.Fatal("sample")
	}
	for i, change := range []func(u *api.Unit){
		func(u *api.Unit) { u.Types = append(u.Types, of(api.KPtr, 99)) },
		func(u *api.Unit) { u.Named = u.Named[:2] },
		func(u *api.Unit) { u.Named = u.Named[1:] },
		func(u *api.Unit) { u.Named[0], u.Named[1] = u.Named[1], u.Named[0] },
		func(u *api.Unit) { u.Named = append(u.Named, u.Named[2]) },
		func(u *api.Unit) { u.Named = append(u.Named, api.Named{Name: "q"}) },
		func(u *api.Unit) { u.Named = append(u.Named, api.Named{Name: "q.r.s"}) },
		func(u *api.Unit) { u.Named = append(u.Named, api.Named{Name: "q.1"}) },
		func(u *api.Unit) { u.Named[0].Bounds = []int{api.YAny} },
		func(u *api.Unit) { u.Named[2].Bounds = []int{api.YAny} },
		func(u *api.Unit) { u.Named[2].Bounds = []int{api.YAny, 2} },
		func(u *api.Unit) { u.Named[2].Bounds = []int{api.YAny, -1} },
		func(u *api.Unit) { u.Named[2].Bounds = []int{api.YAny, 34} },
		func(u *api.Unit) { u.Named[2].Bounds = []int{api.YAny, 32} },
		func(u *api.Unit) { u.Named[0].Under = 30 },
		func(u *api.Unit) { u.Named[2].Under = 22 },
		func(u *api.Unit) { u.Named[0].Under = 34 },
		func(u *api.Unit) { u.Named[0].Under = -1 },
		func(u *api.Unit) { u.Named[0].Under = api.UInt },
		func(u *api.Unit) { u.Named[0].Under = api.UNil },
		func(u *api.Unit) { u.Named[0].Under = api.UBool },
		func(u *api.Unit) { u.Named[0].Under = 27 },
		func(u *api.Unit) { u.Named[0].Under = 29 },
		func(u *api.Unit) { u.Types = append(u.Types, of(api.KPtr, 2)); u.Named[0].Under = 34 },
		func(u *api.Unit) { u.Named[0].Methods[0].Name = "G" },
		func(u *api.Unit) { u.Named[0].Methods[0].Name = "H" },
		func(u *api.Unit) { u.Named[0].Methods[0].Name = "" },
		func(u *api.Unit) { u.Named[0].Methods[1].Name = "G G" },
		func(u *api.Unit) { u.Named[0].Methods[0].Sig = 2 },
		func(u *api.Unit) { u.Named[0].Methods[0].Sig = -1 },
		func(u *api.Unit) { u.Named[0].Methods[0].Sig = 34 },
		func(u *api.Unit) { u.Named[0].Methods[0].Sig = 25 },
		func(u *api.Unit) { u.Named[1].Methods = u.Named[0].Methods[:1] },
		func(u *api.Unit) { u.Types = append(u.Types, called("p.T", 1)) },
		func(u *api.Unit) { u.Types = append(u.Types, called("p.A", 1)) },
		func(u *api.Unit) { u.Types = append(u.Types, called("q.A")) },
	} {
		u := clone(sample())
		change(&u)
		if Right(u) {
			t.Error(i)
		}
		if n, e := Find(u, "p.A"); n != 0 || e != api.ErrArg {
			t.Error(i, n, e)
		}
		if v, n, e := Put(u, of(api.KPtr, 2)); !Like(v, api.Unit{}) || n != 0 || e != api.ErrArg {
			t.Error(i, n, e)
		}
		for _, at := range []int{30, -1} {
			if v, n, e := Under(u, at); !Like(v, api.Unit{}) || n != 0 || e != api.ErrArg {
				t.Error(i, n, e)
			}
			if v, m, e := Methods(u, at); !Like(v, api.Unit{}) || m != nil || e != api.ErrArg {
				t.Error(i, m, e)
			}
		}
		if Like(u, sample()) || Like(sample(), u) || !Like(u, clone(u)) {
			t.Error(i, "Like")
		}
	}
	for i, change := range []func(u *api.Unit){
		func(u *api.Unit) { u.Named[0].Under = api.YFloat64 },
		func(u *api.Unit) { u.Named[1].Under = api.YComp },
		func(u *api.Unit) { u.Named[2].Bounds[1] = 33 },
		func(u *api.Unit) { u.Named[0].Methods[0].Name = "_" },
		func(u *api.Unit) { u.Named[0].Methods[0].Ptr = true },
		func(u *api.Unit) { u.Named[2].Under = 28 },
	} {
		u := clone(sample())
		if change(&u); i == 3 {
			u.Named[0].Methods[1].Name = "a"
		}
		if !Right(u) || Like(u, sample()) {
			t.Error(i)
		}
	}
}

func TestP12_1Many(t *testing.T) {
	row := func(n int) api.Unit {
		u := api.Unit{Types: with(of(api.KFunc))}
		for i := range n {
			u.Named = append(u.Named, api.Named{Name: fmt.Sprintf("p.T%03d", i), Under: 2})
		}
		return u
	}
	if !Right(row(60)) || Right(row(61)) {
		t.Error("60")
	}
	for n, want := range map[int]bool{16: true, 17: false} {
		u, v := row(1), row(1)
		for i := range n {
			u.Named[0].Methods = append(u.Named[0].Methods, api.Method{Name: string(rune('a' + i)), Sig: 22})
			v.Named[0].Bounds = append(v.Named[0].Bounds, api.YAny)
		}
		if Right(u) != want || Right(v) != want {
			t.Error(n)
		}
	}
	u := row(60)
	for i, n := range u.Named {
		if k, e := Find(u, n.Name); k != i || e != api.OK {
			t.Error(i, k, e)
		}
	}
	for _, s := range []string{"", "p.T", "p.T0000", "q", "p.T060"} {
		if k, e := Find(u, s); k != 0 || e != api.ErrNone {
			t.Error(s, k, e)
		}
	}
}

func TestP12_2(t *testing.T) {
	for _, c := range []struct {
		t api.Type
		i int
		e api.Errno
	}{
		{of(api.KPtr, 30), 34, api.OK}, {called("p.A"), 30, api.OK}, {called("p.T", 2, 31), 34, api.OK},
		{of(api.KPtr, 34), 0, api.ErrArg}, {called("p"), 0, api.ErrArg}, {called("p.A", 99), 0, api.ErrArg},
		{called("p.A", 2), 0, api.ErrNone}, {called("p.T"), 0, api.ErrNone}, {called("p.B"), 0, api.ErrNone}, {called("p.T", 1, 2, 3), 0, api.ErrNone},
	} {
		u, i, e := Put(sample(), c.t)
		if i != c.i || e != c.e || e == api.OK && !Right(u) || e != api.OK && !Like(u, api.Unit{}) {
			t.Error(c, i, e)
		}
		if e == api.OK && (text(u, i) == "" || len(u.Types) != max(34, i+1)) {
			t.Error(c, i)
		}
	}
	u := sample()
	for len(u.Types) < 400 {
		u.Types = append(u.Types, of(api.KPtr, len(u.Types)-1))
	}
	if v, i, e := Put(u, called("p.X")); !Like(v, api.Unit{}) || i != 0 || e != api.ErrMany {
		t.Error(i, e)
	}
}

func TestP12_3Under(t *testing.T) {
	for i, want := range map[int]string{2: "int", 22: "#0", 27: "map[#0]#1", 30: "struct{X int}", 31: "map[string]p.A", 32: "interface{M(); N()}", api.UNil: "untyped nil"} {
		u, k, e := Under(sample(), i)
		if text(u, k) != want || e != api.OK || !Right(u) {
			t.Error(i, text(u, k), e)
		}
		if i != 31 && !Like(u, sample()) {
			t.Error(i, "changed")
		}
		if v, n, e := Under(u, k); n != k || e != api.OK || !Like(u, v) {
			t.Error(i, "has a name")
		}
	}
	for _, i := range []int{-1, 34, 1 << 40} {
		if u, k, e := Under(sample(), i); !Like(u, api.Unit{}) || k != 0 || e != api.ErrNone {
			t.Error(i, k, e)
		}
		if u, m, e := Methods(sample(), i); !Like(u, api.Unit{}) || m != nil || e != api.ErrNone {
			t.Error(i, m, e)
		}
	}
	full := sample()
	for len(full.Types) < 400 {
		full.Types = append(full.Types, of(api.KPtr, len(full.Types)-1))
	}
	if u, k, e := Under(full, 31); !Like(u, api.Unit{}) || k != 0 || e != api.ErrMany {
		t.Error(k, e)
	}
	if u, m, e := Methods(full, 31); !Like(u, api.Unit{}) || m != nil || e != api.ErrMany {
		t.Error(m, e)
	}
	if _, k, e := Under(full, 30); k != 28 || e != api.OK {
		t.Error(k, e)
	}
}

func TestP12_3Methods(t *testing.T) {
	show := func(u api.Unit, l []api.Method) string {
		s := ""
		for _, m := range l {
			s += fmt.Sprint(m.Name, m.Ptr, text(u, m.Sig), " ")
		}
		return s
	}
	for i, want := range map[int]string{
		2: "", 27: "", 28: "", 22: "", 32: "", api.YAny: "",
		29: "Mfalsefunc() Nfalsefunc() ",
		33: "Mfalsefunc() ",
		30: "Ffalsefunc() Gtruefunc() ",
		31: "Mtruefunc(p.A, string) afalsefunc(string) ",
	} {
		u, l, e := Methods(sample(), i)
		if show(u, l) != want || e != api.OK || !Right(u) {
			t.Error(i, show(u, l), e)
		}
	}
	// One after the other, in order.
	u, l, _ := Methods(sample(), 31)
	if len(u.Types) != 36 || l[0].Sig != 34 || l[1].Sig != 35 {
		t.Error(l)
	}
	// The list is no part of the unit.
	u, l, _ = Methods(sample(), 30)
	l[0].Name = "changed"
	if u.Named[0].Methods[0].Name != "F" {
		t.Error("shared")
	}
}

func TestP12_4(t *testing.T) {
	u := api.Unit{Types: with(param(0), of(api.KSlice, 22), called("p.T", 2)), Named: []api.Named{{Name: "p.T", Bounds: []int{api.YAny}, Under: 23}}}
	v, i, e := Under(u, 24)
	if text(v, i) != "[]int" || e != api.OK || len(u.Types) != 25 {
		t.Error(text(v, i), e)
	}
	for k := range u.Types {
		if text(u, k) != text(v, k) {
			t.Error(k)
		}
	}
	if w, k, e := Under(v, i); k != i || e != api.OK || !Like(v, w) {
		t.Error(k, e)
	}
}

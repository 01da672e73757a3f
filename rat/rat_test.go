package rat

import (
	"math"
	"math/big"
	"math/rand"
	"slices"
	"testing"

	"indenture/api"
	"indenture/nat"
)

// wrong are numbers that may not be.
var wrong = []api.Rat{
	{},
	{Num: api.Nat{1}},
	{Den: api.Nat{2}},
	{Neg: true, Den: api.Nat{1}},
	{Num: api.Nat{2}, Den: api.Nat{4}},
	{Num: api.Nat{6}, Den: api.Nat{9}},
	{Num: api.Nat{1, 0}, Den: api.Nat{1}},
	{Num: api.Nat{1}, Den: api.Nat{0}},
	{Num: api.Nat{1}, Den: make(api.Nat, 17)},
}

func big1(n api.Nat) *big.Int {
	x := new(big.Int)
	for i := len(n) - 1; i >= 0; i-- {
		x.Lsh(x, 32).Add(x, big.NewInt(int64(n[i])))
	}
	return x
}

func bigRat(r api.Rat) *big.Rat {
	x := new(big.Rat).SetFrac(big1(r.Num), big1(r.Den))
	if r.Neg {
		x.Neg(x)
	}
	return x
}

func same(r api.Rat, b *big.Rat) bool {
	return Right(r) && bigRat(r).Cmp(b) == 0
}

func limbs(r *rand.Rand, most int) api.Nat {
	n := make(api.Nat, r.Intn(most+1))
	for i := range n {
		n[i] = []uint32{0, 1, 6, math.MaxUint32, r.Uint32()}[r.Intn(5)]
	}
	for len(n) > 0 && n[len(n)-1] == 0 {
		n = n[:len(n)-1]
	}
	return n
}

// some is a number of any length.
func some(r *rand.Rand) api.Rat {
	most := []int{1, 2, 8, 9, 16}[r.Intn(5)]
	for {
		if x, e := Make(r.Intn(2) == 0, limbs(r, most), limbs(r, most)); e == api.OK {
			return x
		}
	}
}

func of(n int64, d uint64) api.Rat {
	r, _ := Make(n < 0, nat.Of(uint64(max(n, -n))), nat.Of(d))
	return r
}

func TestP2_1(t *testing.T) {
	for _, r := range wrong {
		if Right(r) {
			t.Error(r)
		}
		if s, e := Text(r); s != "" || e != api.ErrArg {
			t.Error(r, s, e)
		}
		if x, e := Trunc(r); !Like(x, api.Rat{}) || e != api.ErrArg {
			t.Error(r, x, e)
		}
	}
	for _, c := range []struct {
		neg      bool
		num, den api.Nat
		want     string
		why      api.Errno
	}{
		{false, api.Nat{6}, api.Nat{4}, "3/2", api.OK},
		{true, api.Nat{6}, api.Nat{4}, "-3/2", api.OK},
		{true, nil, api.Nat{0, 4}, "0", api.OK},
		{true, api.Nat{12}, api.Nat{4}, "-3", api.OK},
		{false, api.Nat{1}, nil, "", api.ErrZero},
		{false, api.Nat{1, 0}, nil, "", api.ErrArg},
		{false, nil, api.Nat{0}, "", api.ErrArg},
	} {
		r, e := Make(c.neg, c.num, c.den)
		s, _ := Text(r)
		if s != c.want || e != c.why || e != api.OK && !Like(r, api.Rat{}) {
			t.Error(c, r, s, e)
		}
	}
	if !Like(api.Rat{Num: nil, Den: api.Nat{1}}, api.Rat{Num: api.Nat{}, Den: api.Nat{1}}) {
		t.Error("a nil list is not an empty one")
	}
	a := of(3, 7)
	for _, b := range []api.Rat{of(-3, 7), of(3, 8), of(4, 7), {}} {
		if Like(a, b) || !Like(b, b) {
			t.Error(b)
		}
	}
}

func TestP2_2(t *testing.T) {
	r := rand.New(rand.NewSource(1))
	fit := func(l ...*big.Int) bool {
		for _, x := range l {
			if x.BitLen() > 512 {
				return false
			}
		}
		return true
	}
	for range 6000 {
		a, b := some(r), some(r)
		if r.Intn(4) == 0 {
			b = a
		}
		x, y := bigRat(a), bigRat(b)
		n, d, m, e := big1(a.Num), big1(a.Den), big1(b.Num), big1(b.Den)
		ne, md, de := new(big.Int).Mul(n, e), new(big.Int).Mul(m, d), new(big.Int).Mul(d, e)
		nm := new(big.Int).Mul(n, m)
		check := func(what string, got api.Rat, e api.Errno, ok bool, want *big.Rat) {
			if ok && (e != api.OK || !same(got, want)) || !ok && (e != api.ErrOver || !Like(got, api.Rat{})) {
				t.Fatal(what, a, b, got, e)
			}
		}
		total := new(big.Int).Add(ne, md)
		got, why := Add(a, b)
		check("Add", got, why, fit(ne, md, de, total), new(big.Rat).Add(x, y))
		got, why = Sub(a, b)
		check("Sub", got, why, fit(ne, md, de, total), new(big.Rat).Sub(x, y))
		got, why = Mul(a, b)
		check("Mul", got, why, fit(nm, de), new(big.Rat).Mul(x, y))
		got, why = Quo(a, b)
		if len(b.Num) == 0 {
			if why != api.ErrZero || !Like(got, api.Rat{}) {
				t.Fatal("Quo", a, b, got, why)
			}
		} else {
			check("Quo", got, why, fit(ne, md), new(big.Rat).Quo(x, y))
		}
	}
	for _, w := range wrong {
		for _, f := range []func(a, b api.Rat) (api.Rat, api.Errno){Add, Sub, Mul, Quo} {
			if x, e := f(w, of(0, 1)); e != api.ErrArg || !Like(x, api.Rat{}) {
				t.Error(w, x, e)
			}
			if x, e := f(of(0, 1), w); e != api.ErrArg || !Like(x, api.Rat{}) {
				t.Error(w, x, e)
			}
		}
	}
}

func TestP2_2Edges(t *testing.T) {
	half, _ := nat.Shift(nat.Of(1), 511)
	top := api.Rat{Num: half, Den: nat.Of(1)}
	down := api.Rat{Neg: true, Num: half, Den: nat.Of(1)}
	for _, a := range []api.Rat{top, down} {
		for _, b := range []api.Rat{top, down} {
			tooGreat(t, a, b)
		}
	}
	small, _ := Make(false, nat.Of(1), half)
	if x, e := Mul(small, top); e != api.OK || !Like(x, of(1, 1)) {
		t.Error(x, e)
	}
	if x, e := Quo(small, top); e != api.ErrOver {
		t.Error(x, e)
	}
	if x, e := Quo(top, of(0, 1)); e != api.ErrZero || !Like(x, api.Rat{}) {
		t.Error(x, e)
	}
	if x, e := Add(of(1, 6), of(1, 3)); e != api.OK || !Like(x, of(1, 2)) {
		t.Error(x, e)
	}
}

// tooGreat looks whether neither the sum of two nor one less the other is told.
func tooGreat(t *testing.T, a, b api.Rat) {
	t.Helper()
	for _, f := range []func(a, b api.Rat) (api.Rat, api.Errno){Add, Sub} {
		if x, e := f(a, b); e != api.ErrOver || !Like(x, api.Rat{}) {
			t.Error(a, b, x, e)
		}
		if x, e := f(b, a); e != api.ErrOver || !Like(x, api.Rat{}) {
			t.Error(b, a, x, e)
		}
	}
}

// TestP2_2Signs: the sum of both products without signs may not be 2^512, whatever the signs, nor whether it is Add or Sub.
func TestP2_2Signs(t *testing.T) {
	half, _ := nat.Shift(nat.Of(1), 511)
	less, _ := nat.Sub(half, nat.Of(1))
	most, _ := nat.Add(half, less)
	third, _, _ := nat.Div(most, nat.Of(3))
	for _, c := range []struct {
		n, d, m, e api.Nat
		over       bool
	}{
		{half, nat.Of(1), less, nat.Of(1), false},
		{half, nat.Of(1), half, nat.Of(1), true},
		{most, nat.Of(1), nil, nat.Of(1), false},
		{most, nat.Of(1), nat.Of(1), nat.Of(1), true},
		{most, nat.Of(2), nil, nat.Of(1), false},
		{third, nat.Of(1), nat.Of(1), nat.Of(3), true},
		{third, nat.Of(1), nat.Of(1), nat.Of(2), false},
		{less, nat.Of(2), nat.Of(1), nat.Of(2), true},
		{less, nat.Of(2), nat.Of(1), nat.Of(1), false},
	} {
		for _, negs := range [][2]bool{{}, {true, false}, {false, true}, {true, true}} {
			a, _ := Make(negs[0], c.n, c.d)
			b, _ := Make(negs[1], c.m, c.e)
			if c.over {
				tooGreat(t, a, b)
				continue
			}
			if x, e := Add(a, b); e != api.OK || !same(x, new(big.Rat).Add(bigRat(a), bigRat(b))) {
				t.Error(a, b, x, e)
			}
			if x, e := Sub(a, b); e != api.OK || !same(x, new(big.Rat).Sub(bigRat(a), bigRat(b))) {
				t.Error(a, b, x, e)
			}
		}
	}
}

func TestP2_3(t *testing.T) {
	r := rand.New(rand.NewSource(2))
	for range 6000 {
		a, b := some(r), some(r)
		if r.Intn(4) == 0 {
			b = a
		}
		ne := new(big.Int).Mul(big1(a.Num), big1(b.Den))
		md := new(big.Int).Mul(big1(b.Num), big1(a.Den))
		c, e := Cmp(a, b)
		if ne.BitLen() > 512 || md.BitLen() > 512 {
			if c != 0 || e != api.ErrOver {
				t.Fatal(a, b, c, e)
			}
		} else if e != api.OK || c != bigRat(a).Cmp(bigRat(b)) {
			t.Fatal(a, b, c, e)
		}
		x, e := Trunc(a)
		q := new(big.Int).Quo(bigRat(a).Num(), bigRat(a).Denom())
		if e != api.OK || !same(x, new(big.Rat).SetInt(q)) {
			t.Fatal(a, x, e)
		}
	}
	for _, w := range wrong {
		if c, e := Cmp(w, of(1, 1)); c != 0 || e != api.ErrArg {
			t.Error(w, c, e)
		}
		if c, e := Cmp(of(1, 1), w); c != 0 || e != api.ErrArg {
			t.Error(w, c, e)
		}
	}
	if x, e := Trunc(of(-1, 2)); e != api.OK || !Like(x, of(0, 1)) {
		t.Error(x, e)
	}
}

func TestP2_4(t *testing.T) {
	r := rand.New(rand.NewSource(3))
	for range 4000 {
		a, b := some(r), some(r)
		c, d := slices.Clone(a.Num), slices.Clone(b.Den)
		if x, e := Add(a, b); e == api.OK {
			if y, e := Sub(x, b); e == api.OK && !Like(y, a) {
				t.Fatal(a, b, x, y)
			}
		}
		if x, e := Mul(a, b); e == api.OK {
			if y, e := Quo(x, b); e == api.OK && !Like(y, a) {
				t.Fatal(a, b, x, y)
			}
		}
		if !slices.Equal(c, a.Num) || !slices.Equal(d, b.Den) {
			t.Fatal("changed")
		}
		if n, e := Cmp(a, b); e == api.OK && (n == 0) != Like(a, b) {
			t.Fatal(a, b)
		}
	}
}

package nat

import (
	"math"
	"math/big"
	"math/rand"
	"slices"
	"strings"
	"testing"

	"indenture/api"
)

// wrong are numbers that may not be.
var wrong = []api.Nat{{0}, {1, 0}, make(api.Nat, 17), append(make(api.Nat, 16), 1)}

// whole is the number as one of the library's.
func whole(n api.Nat) *big.Int {
	sum := new(big.Int)
	for i := len(n) - 1; i >= 0; i-- {
		sum.Lsh(sum, 32).Add(sum, big.NewInt(int64(n[i])))
	}
	return sum
}

// same tells whether an answer is the number that was reckoned otherwise.
func same(n api.Nat, b *big.Int) bool { return Right(n) && whole(n).Cmp(b) == 0 }

// some is a number of any length, often one with limbs of all bits or none.
func some(r *rand.Rand) api.Nat {
	n := make(api.Nat, r.Intn(17), 20)
	for i := range n {
		n[i] = []uint32{0, 1, 1 << 31, math.MaxUint32, r.Uint32(), r.Uint32()}[r.Intn(6)]
	}
	for len(n) > 0 && n[len(n)-1] == 0 {
		n = n[:len(n)-1]
	}
	return n
}

func TestP1_1(t *testing.T) {
	for _, n := range wrong {
		if Right(n) {
			t.Error(n)
		}
		if c, e := Cmp(n, nil); c != 0 || e != api.ErrArg {
			t.Error("Cmp", n)
		}
		if c, e := Cmp(nil, n); c != 0 || e != api.ErrArg {
			t.Error("Cmp", n)
		}
		if b, e := Bits(n); b != 0 || e != api.ErrArg {
			t.Error("Bits", n)
		}
	}
	if !Right(nil) || !Right(api.Nat{}) || !Right(append(make(api.Nat, 15), 1)) {
		t.Error("Right")
	}
	for n, want := range map[uint64]api.Nat{0: nil, 7: {7}, 1 << 32: {0, 1}, math.MaxUint64: {math.MaxUint32, math.MaxUint32}} {
		if !slices.Equal(Of(n), want) {
			t.Error("Of", n)
		}
	}
	r := rand.New(rand.NewSource(1))
	for range 3000 {
		a, b := some(r), some(r)
		if r.Intn(4) == 0 {
			b = slices.Clone(a)
		}
		if c, e := Cmp(a, b); e != api.OK || c != whole(a).Cmp(whole(b)) {
			t.Fatal(a, b, c, e)
		}
		if n, e := Bits(a); e != api.OK || n != whole(a).BitLen() {
			t.Fatal(a, n, e)
		}
	}
}

func TestP1_2(t *testing.T) {
	r := rand.New(rand.NewSource(2))
	for range 20000 {
		a, b := some(r), some(r)
		c, d := slices.Clone(a), slices.Clone(b)
		x, y := whole(a), whole(b)
		over := func(n api.Nat, e api.Errno, z *big.Int, what string) {
			if z.BitLen() > 512 && (n != nil || e != api.ErrOver) || z.BitLen() <= 512 && (e != api.OK || !same(n, z)) {
				t.Fatal(what, a, b, n, e)
			}
		}
		n, e := Add(a, b)
		over(n, e, new(big.Int).Add(x, y), "Add")
		n, e = Mul(a, b)
		over(n, e, new(big.Int).Mul(x, y), "Mul")
		n, e = Sub(a, b)
		if x.Cmp(y) < 0 && (n != nil || e != api.ErrLess) || x.Cmp(y) >= 0 && (e != api.OK || !same(n, new(big.Int).Sub(x, y))) {
			t.Fatal("Sub", a, b, n, e)
		}
		n, m, e := Div(a, b)
		if len(b) == 0 {
			if n != nil || m != nil || e != api.ErrZero {
				t.Fatal("Div", a, b, n, m, e)
			}
		} else if q, left := new(big.Int).DivMod(x, y, new(big.Int)); e != api.OK || !same(n, q) || !same(m, left) {
			t.Fatal("Div", a, b, n, m, e)
		}
		by := r.Intn(560)
		n, e = Shift(a, by)
		over(n, e, new(big.Int).Lsh(x, uint(by)), "Shift")
		n, e = Shift(a, -by)
		over(n, e, new(big.Int).Rsh(x, uint(by)), "Shift down")
		if !slices.Equal(a, c) || !slices.Equal(b, d) {
			t.Fatal("changed", c, d)
		}
	}
}

func TestP1_2Edges(t *testing.T) {
	top := make(api.Nat, 16)
	for i := range top {
		top[i] = math.MaxUint32
	}
	if n, e := Add(top, Of(1)); n != nil || e != api.ErrOver {
		t.Error(n, e)
	}
	if n, e := Shift(Of(1), 511); e != api.OK || len(n) != 16 {
		t.Error(n, e)
	}
	for _, by := range []int{512, math.MaxInt} {
		if n, e := Shift(Of(1), by); n != nil || e != api.ErrOver {
			t.Error(n, e)
		}
		if n, e := Shift(nil, by); len(n) != 0 || e != api.OK {
			t.Error(n, e)
		}
	}
	for _, by := range []int{-512, math.MinInt, -math.MaxInt} {
		if n, e := Shift(top, by); len(n) != 0 || e != api.OK {
			t.Error(n, e)
		}
	}
	for _, n := range wrong {
		for _, f := range []func(a, b api.Nat) (api.Nat, api.Errno){Add, Sub, Mul} {
			if x, e := f(n, Of(1)); x != nil || e != api.ErrArg {
				t.Error(n, x, e)
			}
			if x, e := f(nil, n); x != nil || e != api.ErrArg {
				t.Error(n, x, e)
			}
		}
		if q, x, e := Div(n, nil); q != nil || x != nil || e != api.ErrArg {
			t.Error(n, q, x, e)
		}
		if q, x, e := Div(nil, n); q != nil || x != nil || e != api.ErrArg {
			t.Error(n, q, x, e)
		}
		if x, e := Shift(n, math.MaxInt); x != nil || e != api.ErrArg {
			t.Error(n, x, e)
		}
	}
	// Guesses of a quotient's limb that are too great.
	for _, p := range [][2]api.Nat{
		{{0, 0, 1 << 31, 1<<31 - 1}, {math.MaxUint32, 0, 1 << 31}},
		{{0, math.MaxUint32 - 1, 1 << 31}, {math.MaxUint32, 1 << 31}},
		{{3, 0, 1 << 31}, {1, 0, 1 << 29}},
	} {
		q, m, e := Div(p[0], p[1])
		x, y := new(big.Int).DivMod(whole(p[0]), whole(p[1]), new(big.Int))
		if e != api.OK || !same(q, x) || !same(m, y) {
			t.Error(p, q, m, e)
		}
	}
}

func TestP1_3(t *testing.T) {
	for _, n := range wrong {
		if s, e := Text(n); s != "" || e != api.ErrArg {
			t.Error(n, s, e)
		}
	}
	for _, base := range []int{-1, 0, 1, 3, 11, 36} {
		if n, e := Parse("x", base); n != nil || e != api.ErrArg {
			t.Error(base, n, e)
		}
	}
	for base, l := range map[int][]string{2: {"2", "0b1", ""}, 8: {"8", "", "-1"}, 10: {"a", "", "+1", "1_0", " 1", "/", ":"}, 16: {"g", "G", "", "0x1", "`", "@"}} {
		for _, s := range l {
			if n, e := Parse(s+strings.Repeat("1", 600), base); s != "" && (n != nil || e != api.ErrSyntax) {
				t.Error(base, s, n, e)
			}
			if n, e := Parse(s, base); n != nil || e != api.ErrSyntax {
				t.Error(base, s, n, e)
			}
		}
		one := strings.Repeat("0", 5000) + "1"
		if n, e := Parse(one, base); e != api.OK || !slices.Equal(n, Of(1)) {
			t.Error(base, n, e)
		}
	}
	r := rand.New(rand.NewSource(3))
	for range 2000 {
		a := some(r)
		if s, e := Text(a); e != api.OK || s != whole(a).String() {
			t.Fatal(a, s, e)
		}
		for _, base := range bases {
			s := whole(a).Text(base)
			if r.Intn(2) == 0 {
				s = strings.ToUpper(s)
			}
			if n, e := Parse(s, base); e != api.OK || !slices.Equal(n, a) {
				t.Fatal(s, base, n, e)
			}
		}
	}
	over := new(big.Int).Lsh(big.NewInt(1), 512)
	for _, base := range bases {
		if n, e := Parse(over.Text(base), base); n != nil || e != api.ErrOver {
			t.Error(base, n, e)
		}
		if n, e := Parse(new(big.Int).Sub(over, big.NewInt(1)).Text(base), base); e != api.OK || len(n) != 16 {
			t.Error(base, n, e)
		}
	}
}

func TestP1_4(t *testing.T) {
	q, r, e := Div(Of(1<<40), Of(10))
	if e != api.OK || !slices.Equal(q, Of(109951162777)) || !slices.Equal(r, Of(6)) {
		t.Error(q, r, e)
	}
	source := rand.New(rand.NewSource(4))
	for range 5000 {
		a, b := some(source), some(source)
		if q, r, e := Div(a, b); e == api.OK {
			p, e1 := Mul(q, b)
			s, e2 := Add(p, r)
			if c, _ := Cmp(r, b); e1 != api.OK || e2 != api.OK || c >= 0 || !slices.Equal(s, a) {
				t.Fatal(a, b, q, r)
			}
		}
		s, _ := Text(a)
		if n, e := Parse(s, 10); e != api.OK || !slices.Equal(n, a) {
			t.Fatal(s, n, e)
		}
		x, e1 := Add(a, b)
		y, e2 := Add(b, a)
		if e1 != e2 || !slices.Equal(x, y) {
			t.Fatal(a, b, x, y)
		}
		x, e1 = Mul(a, b)
		y, e2 = Mul(b, a)
		if e1 != e2 || !slices.Equal(x, y) {
			t.Fatal(a, b, x, y)
		}
	}
}

// TestRoom: no call writes behind a list's end.
func TestRoom(t *testing.T) {
	row := api.Nat{1, 2, 3, 77, 77, 77}
	a := row[:3]
	Add(a, a)
	Mul(a, a)
	Sub(a, Of(1))
	Div(a, Of(1))
	Div(a, row[:2])
	Shift(a, 40)
	Shift(a, -40)
	Text(a)
	if !slices.Equal(row, api.Nat{1, 2, 3, 77, 77, 77}) {
		t.Error(row)
	}
}

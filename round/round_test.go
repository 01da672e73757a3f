package round

import (
	"math"
	"math/big"
	"math/rand"
	"testing"

	"indenture/api"
	"indenture/nat"
	"indenture/rat"
)

func whole(n api.Nat) *big.Int {
	x := new(big.Int)
	for i := len(n) - 1; i >= 0; i-- {
		x.Lsh(x, 32).Add(x, big.NewInt(int64(n[i])))
	}
	return x
}

func natOf(x *big.Int) api.Nat {
	n, _ := nat.Parse(new(big.Int).Abs(x).String(), 10)
	return n
}

func ratOf(x *big.Rat) api.Rat {
	r, _ := rat.Make(x.Sign() < 0, natOf(x.Num()), natOf(x.Denom()))
	return r
}

func bigOf(r api.Rat) *big.Rat {
	x := new(big.Rat).SetFrac(whole(r.Num), whole(r.Den))
	if r.Neg {
		x.Neg(x)
	}
	return x
}

func of(n int64, d uint64) api.Rat {
	r, _ := rat.Make(n < 0, nat.Of(uint64(max(n, -n))), nat.Of(d))
	return r
}

// near is the answer as the library tells it.
func near(r api.Rat, size int) (uint64, bool, api.Errno) {
	x := bigOf(r)
	if size == 32 {
		f, exact := x.Float32()
		if math.IsInf(float64(f), 0) {
			return 0, false, api.ErrOver
		}
		if f == 0 {
			return 0, exact, api.OK
		}
		return uint64(math.Float32bits(f)), exact, api.OK
	}
	f, exact := x.Float64()
	return math.Float64bits(f), exact, api.OK
}

func checkNear(t *testing.T, r api.Rat) {
	t.Helper()
	for _, size := range []int{32, 64} {
		b, exact, e := Bits(r, size)
		b1, exact1, e1 := near(r, size)
		if b != b1 || exact != exact1 || e != e1 {
			t.Fatal(r, size, b, exact, e, b1, exact1, e1)
		}
	}
}

func limbs(r *rand.Rand, most int) api.Nat {
	n := make(api.Nat, r.Intn(most+1))
	for i := range n {
		n[i] = []uint32{0, 1, math.MaxUint32, r.Uint32()}[r.Intn(4)]
	}
	for len(n) > 0 && n[len(n)-1] == 0 {
		n = n[:len(n)-1]
	}
	return n
}

func TestP3_1(t *testing.T) {
	r := rand.New(rand.NewSource(1))
	for range 5000 {
		most := []int{1, 3, 5, 16}[r.Intn(4)]
		if x, e := rat.Make(r.Intn(2) == 0, limbs(r, most), limbs(r, most)); e == api.OK {
			checkNear(t, x)
		}
	}
	// Floating numbers, what is in the middle of two, and what is a little beside that.
	for range 3000 {
		f := math.Float32frombits(r.Uint32() &^ (1 << 31))
		if r.Intn(3) == 0 {
			f = math.Float32frombits(r.Uint32() & (1<<24 - 1))
		}
		g := math.Nextafter32(f, math.MaxFloat32)
		if math.IsNaN(float64(f)) || math.IsInf(float64(f), 0) {
			continue
		}
		x := new(big.Rat).SetFloat64(float64(f))
		y := new(big.Rat).SetFloat64(float64(g))
		mid := new(big.Rat).Quo(new(big.Rat).Add(x, y), big.NewRat(2, 1))
		for _, off := range []*big.Rat{new(big.Rat), big.NewRat(1, 1<<62), big.NewRat(-1, 1<<62)} {
			checkNear(t, ratOf(new(big.Rat).Mul(mid, new(big.Rat).Add(big.NewRat(1, 1), off))))
		}
		checkNear(t, ratOf(x))
	}
	for range 3000 {
		f := math.Ldexp(1+r.Float64(), r.Intn(800)-400)
		x := new(big.Rat).SetFloat64(f)
		y := new(big.Rat).SetFloat64(math.Nextafter(f, 1e300))
		mid := new(big.Rat).Quo(new(big.Rat).Add(x, y), big.NewRat(2, 1))
		checkNear(t, ratOf(mid.Neg(mid)))
	}
}

func TestP3_1Edges(t *testing.T) {
	if b, exact, e := Bits(of(1, 2), 32); b != 1056964608 || !exact || e != api.OK {
		t.Error(b, exact, e)
	}
	for _, size := range []int{0, 31, 33, 63, 65, -32, 128} {
		if b, exact, e := Bits(of(1, 2), size); b != 0 || exact || e != api.ErrArg {
			t.Error(size, b, exact, e)
		}
	}
	for _, r := range []api.Rat{{}, {Num: api.Nat{2}, Den: api.Nat{2}}, {Neg: true, Den: api.Nat{1}}} {
		if b, exact, e := Bits(r, 32); b != 0 || exact || e != api.ErrArg {
			t.Error(r, b, exact, e)
		}
	}
	// Of 32 bits: the greatest number, what is rounded to it, and what is too great.
	top := new(big.Int).Lsh(big.NewInt(1<<24-1), 104)
	half := new(big.Int).Lsh(big.NewInt(1), 103)
	edge := new(big.Int).Add(top, half)
	for _, c := range []struct {
		n    *big.Int
		want uint64
		e    api.Errno
	}{
		{top, 0x7f7fffff, api.OK},
		{new(big.Int).Sub(edge, big.NewInt(1)), 0x7f7fffff, api.OK},
		{edge, 0, api.ErrOver},
		{new(big.Int).Lsh(big.NewInt(1), 128), 0, api.ErrOver},
		{new(big.Int).Lsh(big.NewInt(1), 511), 0, api.ErrOver},
	} {
		if b, exact, e := Bits(ratOf(new(big.Rat).SetInt(c.n)), 32); b != c.want || e != c.e || exact != (c.n == top) {
			t.Error(c, b, exact, e)
		}
	}
	// What is rounded to 0 has no sign; half of the least number is that.
	least := new(big.Rat).SetFrac(big.NewInt(1), new(big.Int).Lsh(big.NewInt(1), 150))
	for _, r := range []*big.Rat{least, new(big.Rat).Neg(least), new(big.Rat).Mul(least, big.NewRat(-1, 7))} {
		if b, exact, e := Bits(ratOf(r), 32); b != 0 || exact || e != api.OK {
			t.Error(r, b, exact, e)
		}
	}
	if b, exact, e := Bits(ratOf(new(big.Rat).Mul(least, big.NewRat(-3, 2))), 32); b != 1<<31|1 || exact || e != api.OK {
		t.Error(b, exact, e)
	}
	if b, exact, e := Bits(of(0, 1), 64); b != 0 || !exact || e != api.OK {
		t.Error(b, exact, e)
	}
}

func TestP3_2(t *testing.T) {
	for _, c := range []struct {
		bits uint64
		size int
	}{
		{0, 31}, {0, 0}, {1, -1}, {1 << 32, 32}, {1 << 63, 32}, {1 << 31, 32}, {1 << 63, 64},
		{0x7f800000, 32}, {0xff800000, 32}, {0x7fc00001, 32}, {0x7ff0000000000000, 64}, {0xfff8000000000000, 64}, {math.MaxUint64, 64}, {math.MaxUint64, 32},
	} {
		if r, e := Value(c.bits, c.size); e != api.ErrArg || !rat.Like(r, api.Rat{}) {
			t.Error(c, r, e)
		}
	}
	for _, f := range []float64{0, 1, -1.5, 0x1.fffffffffffffp-450, 0x1p-511, 0x3p-511, -0x1.8p-510, 0x1p511, 0x1.fffffffffffffp511} {
		r, e := Value(math.Float64bits(f), 64)
		if e != api.OK || !rat.Right(r) || bigOf(r).Cmp(new(big.Rat).SetFloat64(f)) != 0 {
			t.Error(f, r, e)
		}
	}
	for _, f := range []float64{0x1p512, -0x1p1000, 0x1p-512, 0x1.8p-511, -0x1p-1074, math.MaxFloat64} {
		if r, e := Value(math.Float64bits(f), 64); e != api.ErrOver || !rat.Like(r, api.Rat{}) {
			t.Error(f, r, e)
		}
	}
	for _, f := range []float32{0x1p-149, -math.MaxFloat32, 0x1p-126, 3} {
		r, e := Value(uint64(math.Float32bits(f)), 32)
		if e != api.OK || bigOf(r).Cmp(new(big.Rat).SetFloat64(float64(f))) != 0 {
			t.Error(f, r, e)
		}
	}
}

func TestP3_3(t *testing.T) {
	r := rand.New(rand.NewSource(2))
	for range 5000 {
		b, size := uint64(r.Uint32()), 32
		if r.Intn(2) == 0 {
			b, size = r.Uint64(), 64
		}
		x, e := Value(b, size)
		if e != api.OK {
			continue
		}
		if b1, exact, e := Bits(x, size); b1 != b || !exact || e != api.OK {
			t.Fatal(b, size, b1, exact, e)
		}
	}
	for range 3000 {
		x, y := of(int64(r.Uint32()), uint64(r.Uint32())+1), of(int64(r.Uint32()), uint64(r.Uint32())+1)
		c, _ := rat.Cmp(x, y)
		a, exact, _ := Bits(x, 32)
		b, _, _ := Bits(y, 32)
		if c < 0 && a > b || c > 0 && a < b {
			t.Fatal(x, y, a, b)
		}
		if v, _ := Value(a, 32); exact != rat.Like(v, x) {
			t.Fatal(x, v)
		}
	}
}

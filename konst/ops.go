package konst

import (
	"indenture/api"
	"indenture/nat"
	"indenture/rat"
)

// rule is what an operator does with values of a sort, of types of a sort; a unary one's second value is its first one again.
type rule struct {
	op     string
	values func(v api.Val) bool
	types  func(basic int) bool
	do     func(a, b api.Val, basic int) (api.Val, api.Errno)
}

// unaries are the rules of one value.
func unaries() []rule {
	return []rule{
		{"!", isTruth, ofTruths, func(a, _ api.Val, _ int) (api.Val, api.Errno) { return truth(!a.B), api.OK }},
		{"+", isNumber, ofNumbers, func(a, _ api.Val, _ int) (api.Val, api.Errno) { return a, api.OK }},
		{"-", isNumber, ofNumbers, func(a, _ api.Val, _ int) (api.Val, api.Errno) {
			return numbers(rat.Sub(whole(false, nil), a.R))
		}},
		{"^", isWhole, ofWholes, func(a, _ api.Val, basic int) (api.Val, api.Errno) {
			return numbers(rat.Sub(last(basic), a.R))
		}},
	}
}

// binaries are the rules of two values.
func binaries() []rule {
	return []rule{
		{"&&", isTruth, ofTruths, func(a, b api.Val, _ int) (api.Val, api.Errno) { return truth(a.B && b.B), api.OK }},
		{"||", isTruth, ofTruths, func(a, b api.Val, _ int) (api.Val, api.Errno) { return truth(a.B || b.B), api.OK }},
		{"+", isText, ofTexts, joined},
		{"+", isNumber, ofNumbers, func(a, b api.Val, _ int) (api.Val, api.Errno) { return numbers(rat.Add(a.R, b.R)) }},
		{"-", isNumber, ofNumbers, func(a, b api.Val, _ int) (api.Val, api.Errno) { return numbers(rat.Sub(a.R, b.R)) }},
		{"*", isNumber, ofNumbers, func(a, b api.Val, _ int) (api.Val, api.Errno) { return numbers(rat.Mul(a.R, b.R)) }},
		{"/", isNumber, ofNumbers, divided},
		{"%", isWhole, ofWholes, func(a, b api.Val, _ int) (api.Val, api.Errno) { return numbers(left(a.R, b.R)) }},
		{"&", isWhole, ofWholes, bitwise(func(x, y uint32) uint32 { return x & y })},
		{"|", isWhole, ofWholes, bitwise(func(x, y uint32) uint32 { return x | y })},
		{"^", isWhole, ofWholes, bitwise(func(x, y uint32) uint32 { return x ^ y })},
	}
}

// Unary is what an operator makes of a value, of a basic type.
func Unary(op string, v api.Val, basic int) (api.Val, api.Errno) {
	return apply(unaries(), op, v, v, basic)
}

// Binary is what an operator makes of two values, of a basic type.
func Binary(op string, a, b api.Val, basic int) (api.Val, api.Errno) {
	return apply(binaries(), op, a, b, basic)
}

// apply does what the rule of an operator says that is of such values and types.
func apply(rules []rule, op string, a, b api.Val, basic int) (api.Val, api.Errno) {
	if !Right(a) || !Right(b) || !known(basic) {
		return api.Val{}, api.ErrArg
	}
	why := api.ErrArg
	for _, r := range rules {
		if r.op != op {
			continue
		}
		if !r.values(a) || !r.values(b) || !r.types(basic) {
			why = api.ErrType
			continue
		}
		v, e := r.do(a, b, basic)
		if e != api.OK {
			return api.Val{}, e
		}
		return fits(v, basic)
	}
	return api.Val{}, why
}

// numbers is a number that was reckoned.
func numbers(r api.Rat, e api.Errno) (api.Val, api.Errno) {
	if e != api.OK {
		return api.Val{}, e
	}
	return number(r), api.OK
}

// last is the number of a whole type that has all bits.
func last(basic int) api.Rat {
	bits, signed := width(basic)
	if signed {
		return whole(true, nat.Of(1))
	}
	return whole(false, nat.Of(1<<bits-1))
}

func joined(a, b api.Val, _ int) (api.Val, api.Errno) {
	if len(a.S)+len(b.S) > api.MaxText {
		return api.Val{}, api.ErrMany
	}
	return text(a.S + b.S), api.OK
}

func divided(a, b api.Val, basic int) (api.Val, api.Errno) {
	q, e := rat.Quo(a.R, b.R)
	if e == api.OK && ofWholes(basic) {
		q, e = rat.Trunc(q)
	}
	return numbers(q, e)
}

// left is a less b times how often b is in it.
func left(a, b api.Rat) (api.Rat, api.Errno) {
	q, e := rat.Quo(a, b)
	if e != api.OK {
		return api.Rat{}, e
	}
	if q, e = rat.Trunc(q); e != api.OK {
		return api.Rat{}, e
	}
	if q, e = rat.Mul(b, q); e != api.OK {
		return api.Rat{}, e
	}
	return rat.Sub(a, q)
}

// bitwise does a thing with each two limbs.
func bitwise(do func(x, y uint32) uint32) func(a, b api.Val, _ int) (api.Val, api.Errno) {
	return func(a, b api.Val, _ int) (api.Val, api.Errno) {
		if a.R.Neg || b.R.Neg {
			return api.Val{}, api.ErrOver
		}
		n := make(api.Nat, max(len(a.R.Num), len(b.R.Num)))
		limb := func(l api.Nat, i int) uint32 {
			if i < len(l) {
				return l[i]
			}
			return 0
		}
		for i := range n {
			n[i] = do(limb(a.R.Num, i), limb(b.R.Num, i))
		}
		for len(n) > 0 && n[len(n)-1] == 0 {
			n = n[:len(n)-1]
		}
		return number(whole(false, n)), api.OK
	}
}

// Shift is what a shift makes of a value, of a basic type.
func Shift(op string, a, b api.Val, basic int) (api.Val, api.Errno) {
	if !Right(a) || !Right(b) || !known(basic) || op != "<<" && op != ">>" {
		return api.Val{}, api.ErrArg
	}
	if !ofWholes(basic) || !isWhole(a) || !isWhole(b) {
		return api.Val{}, api.ErrType
	}
	most := api.MaxLimbs * 32
	if c, _ := nat.Cmp(b.R.Num, nat.Of(uint64(most))); b.R.Neg || c > 0 {
		return api.Val{}, api.ErrOver
	}
	by := 0
	if len(b.R.Num) > 0 {
		by = int(b.R.Num[0])
	}
	if op == ">>" {
		return fits(number(down(a.R, by)), basic)
	}
	n, e := nat.Shift(a.R.Num, by)
	if e != api.OK {
		return api.Val{}, e
	}
	return fits(number(whole(a.R.Neg, n)), basic)
}

// down is a whole number divided by 2^by, rounded down.
func down(r api.Rat, by int) api.Rat {
	n, _ := nat.Shift(r.Num, -by)
	if back, _ := nat.Shift(n, by); r.Neg {
		if c, _ := nat.Cmp(back, r.Num); c != 0 {
			n, _ = nat.Add(n, nat.Of(1))
		}
	}
	return whole(r.Neg, n)
}

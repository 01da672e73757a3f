// Package nat is layer 1: natural numbers of 512 bits at most.
package nat

import (
	"math/bits"
	"slices"

	"indenture/api"
)

// limb is how many bits a limb has; room is how many a number may have.
const (
	limb = 32
	room = limb * api.MaxLimbs
)

// bases are those that Parse reads.
var bases = [4]int{2, 8, 10, 16}

// Right tells whether a number may be.
func Right(n api.Nat) bool {
	return len(n) <= api.MaxLimbs && (len(n) == 0 || n[len(n)-1] != 0)
}

// Of is the number n.
func Of(n uint64) api.Nat {
	return trim(api.Nat{uint32(n), uint32(n >> limb)})
}

// trim leaves out limbs of 0 at the end.
func trim(n api.Nat) api.Nat {
	for len(n) > 0 && n[len(n)-1] == 0 {
		n = n[:len(n)-1]
	}
	return n
}

// fit is a number that was reckoned, if it isn't too great.
func fit(n api.Nat) (api.Nat, api.Errno) {
	n = trim(n)
	if len(n) > api.MaxLimbs {
		return nil, api.ErrOver
	}
	return n, api.OK
}

// Cmp is -1, 0 or 1, as a is less than, the same as, or greater than b.
func Cmp(a, b api.Nat) (int, api.Errno) {
	if !Right(a) || !Right(b) {
		return 0, api.ErrArg
	}
	return compare(a, b), api.OK
}

func compare(a, b api.Nat) int {
	if len(a) != len(b) {
		if len(a) < len(b) {
			return -1
		}
		return 1
	}
	for i := len(a) - 1; i >= 0; i-- {
		if a[i] < b[i] {
			return -1
		}
		if a[i] > b[i] {
			return 1
		}
	}
	return 0
}

// Add is the sum of two.
func Add(a, b api.Nat) (api.Nat, api.Errno) {
	if !Right(a) || !Right(b) {
		return nil, api.ErrArg
	}
	if len(a) < len(b) {
		a, b = b, a
	}
	sum := make(api.Nat, len(a)+1)
	carry := uint64(0)
	for i := range a {
		carry += uint64(a[i])
		if i < len(b) {
			carry += uint64(b[i])
		}
		sum[i] = uint32(carry)
		carry >>= limb
	}
	sum[len(a)] = uint32(carry)
	return fit(sum)
}

// Sub is a less b.
func Sub(a, b api.Nat) (api.Nat, api.Errno) {
	if !Right(a) || !Right(b) {
		return nil, api.ErrArg
	}
	if compare(a, b) < 0 {
		return nil, api.ErrLess
	}
	less := make(api.Nat, len(a))
	borrow := uint64(0)
	for i := range a {
		off := borrow
		if i < len(b) {
			off += uint64(b[i])
		}
		d := uint64(a[i]) - off
		less[i] = uint32(d)
		borrow = d >> (2*limb - 1)
	}
	return trim(less), api.OK
}

// Mul is the product of two.
func Mul(a, b api.Nat) (api.Nat, api.Errno) {
	if !Right(a) || !Right(b) {
		return nil, api.ErrArg
	}
	p := make(api.Nat, len(a)+len(b))
	for i := range a {
		carry := uint64(0)
		for j := range b {
			carry += uint64(a[i])*uint64(b[j]) + uint64(p[i+j])
			p[i+j] = uint32(carry)
			carry >>= limb
		}
		p[i+len(b)] = uint32(carry)
	}
	return fit(p)
}

// Div is how often b is in a, and what is left.
func Div(a, b api.Nat) (api.Nat, api.Nat, api.Errno) {
	if !Right(a) || !Right(b) {
		return nil, nil, api.ErrArg
	}
	if len(b) == 0 {
		return nil, nil, api.ErrZero
	}
	if compare(a, b) < 0 {
		return nil, append(api.Nat(nil), a...), api.OK
	}
	if len(b) == 1 {
		q, r := short(a, b[0])
		return q, Of(uint64(r)), api.OK
	}
	q, r := long(a, b)
	return q, r, api.OK
}

// short divides by one limb.
func short(a api.Nat, b uint32) (api.Nat, uint32) {
	q := make(api.Nat, len(a))
	left := uint64(0)
	for i := len(a) - 1; i >= 0; i-- {
		left = left<<limb | uint64(a[i])
		q[i] = uint32(left / uint64(b))
		left %= uint64(b)
	}
	return trim(q), uint32(left)
}

// long divides by two limbs or more, a limb of the quotient at a time; both are shifted first, so that a guess of that limb is at most 2 too great.
func long(a, b api.Nat) (api.Nat, api.Nat) {
	by := bits.LeadingZeros32(b[len(b)-1])
	u, v := up(a, by), trim(up(b, by))
	q := make(api.Nat, len(a)-len(b)+1)
	for i := len(q) - 1; i >= 0; i-- {
		g := guess(u[i:i+len(v)+1], v)
		if take(u[i:i+len(v)+1], v, g) {
			g--
			giveBack(u[i:i+len(v)+1], v)
		}
		q[i] = uint32(g)
	}
	return trim(q), down(u, by)
}

// guess is the limb of the quotient that u's and v's highest limbs tell: right, or 1 too great.
func guess(u, v api.Nat) uint64 {
	n := len(v)
	top := uint64(u[n])<<limb | uint64(u[n-1])
	g, left := top/uint64(v[n-1]), top%uint64(v[n-1])
	for g>>limb != 0 || g*uint64(v[n-2]) > left<<limb|uint64(u[n-2]) {
		g--
		left += uint64(v[n-1])
		if left>>limb != 0 {
			break
		}
	}
	return g
}

// take takes v off u, g times; it tells whether that was once too often.
func take(u, v api.Nat, g uint64) bool {
	carry, borrow := uint64(0), uint64(0)
	for i := range u {
		if i < len(v) {
			carry += g * uint64(v[i])
		}
		d := uint64(u[i]) - uint64(uint32(carry)) - borrow
		u[i] = uint32(d)
		borrow = d >> (2*limb - 1)
		carry >>= limb
	}
	return borrow != 0
}

// giveBack adds v to u once; what is carried out of u makes up for what was borrowed.
func giveBack(u, v api.Nat) {
	carry := uint64(0)
	for i := range u {
		carry += uint64(u[i])
		if i < len(v) {
			carry += uint64(v[i])
		}
		u[i] = uint32(carry)
		carry >>= limb
	}
}

// up is a times 2^by, of by below 32, with one limb more than a has.
func up(a api.Nat, by int) api.Nat {
	n := make(api.Nat, len(a)+1)
	for i, x := range a {
		wide := uint64(x) << by
		n[i] |= uint32(wide)
		n[i+1] = uint32(wide >> limb)
	}
	return n
}

// down is a divided by 2^by, rounded down, of by below 32.
func down(a api.Nat, by int) api.Nat {
	n := make(api.Nat, len(a))
	for i, x := range a {
		wide := uint64(x) << (limb - by)
		n[i] = uint32(wide >> limb)
		if i > 0 {
			n[i-1] |= uint32(wide)
		}
	}
	return trim(n)
}

// Shift is a times 2^by; of by below 0 a divided by 2^-by, rounded down.
func Shift(a api.Nat, by int) (api.Nat, api.Errno) {
	if !Right(a) {
		return nil, api.ErrArg
	}
	if len(a) == 0 {
		return nil, api.OK
	}
	if by < 0 {
		if by <= -width(a) {
			return nil, api.OK
		}
		return down(a[-by/limb:], -by%limb), api.OK
	}
	if by > room-width(a) {
		return nil, api.ErrOver
	}
	n := make(api.Nat, by/limb, by/limb+len(a)+1)
	return trim(append(n, up(a, by%limb)...)), api.OK
}

// Bits is the least n so that a is less than 2^n.
func Bits(a api.Nat) (int, api.Errno) {
	if !Right(a) {
		return 0, api.ErrArg
	}
	return width(a), api.OK
}

func width(a api.Nat) int {
	if len(a) == 0 {
		return 0
	}
	return (len(a)-1)*limb + bits.Len32(a[len(a)-1])
}

// Text is a's digits to the base 10.
func Text(a api.Nat) (string, api.Errno) {
	if !Right(a) {
		return "", api.ErrArg
	}
	if len(a) == 0 {
		return "0", api.OK
	}
	digits := make([]byte, 0, 160) // 2^512 has 155
	for len(a) > 0 {
		var low uint32
		a, low = short(a, 1e9)
		for k := 0; k < 9 && (low > 0 || len(a) > 0); k++ {
			digits = append(digits, '0'+byte(low%10))
			low /= 10
		}
	}
	slices.Reverse(digits)
	return string(digits), api.OK
}

// Parse is the number that a text tells, to a base.
func Parse(s string, base int) (api.Nat, api.Errno) {
	known := false
	for _, b := range bases {
		known = known || b == base
	}
	if !known {
		return nil, api.ErrArg
	}
	if !told(s, base) {
		return nil, api.ErrSyntax
	}
	n := make(api.Nat, api.MaxLimbs)
	for i := range len(s) {
		carry := uint64(digit(s[i]))
		for k := range n {
			carry += uint64(n[k]) * uint64(base)
			n[k] = uint32(carry)
			carry >>= limb
		}
		if carry != 0 {
			return nil, api.ErrOver
		}
	}
	return trim(n), api.OK
}

// told tells whether a text is one digit or more of a base.
func told(s string, base int) bool {
	for i := range len(s) {
		if digit(s[i]) >= base {
			return false
		}
	}
	return s != ""
}

// digit is what a byte stands for; more than any base has, if it is no digit.
func digit(c byte) int {
	switch {
	case '0' <= c && c <= '9':
		return int(c - '0')
	case 'a' <= c && c <= 'f':
		return int(c-'a') + 10
	case 'A' <= c && c <= 'F':
		return int(c-'A') + 10
	}
	return room
}

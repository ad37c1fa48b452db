package big

import (
	"math/bits"

	"terrace/api"
)

// divide tells the quotient of x by y, rounded down, and what is left; y is not 0.
func divide(x, y api.Nat) (api.Nat, api.Nat) {
	switch {
	case compare(x, y) < 0:
		return nil, clone(x)
	case len(y) == 1:
		q := make(api.Nat, len(x))
		r := divideByLimb(q, x, y[0])
		return trim(q), ofLimb(r)
	}
	return divideLong(x, y)
}

// divideByLimb lays x divided by w into q, which is as long as x, and tells what is left. q may be x.
func divideByLimb(q, x []uint64, w uint64) uint64 {
	r := uint64(0)
	for i := len(x) - 1; i >= 0; i-- {
		q[i], r = bits.Div64(r, x[i], w)
	}
	return r
}

// divideLong is Knuth's division: y has two limbs or more, and is not above x.
func divideLong(x, y api.Nat) (api.Nat, api.Nat) {
	// With y's highest bit set a guess by its upper two limbs is at most one too great.
	s := uint(bits.LeadingZeros64(y[len(y)-1]))
	u := make([]uint64, len(x)+1)
	u[len(x)] = upBits(u, x, s)
	v := make([]uint64, len(y))
	upBits(v, y, s)
	q := make(api.Nat, len(x)-len(y)+1)
	for j := len(q) - 1; j >= 0; j-- {
		q[j] = takeOut(u[j:j+len(v)+1], v)
	}
	r := make(api.Nat, len(y))
	downBits(r, u[:len(y)], s)
	return trim(q), trim(r)
}

// takeOut takes v out of u, one limb longer, as often as it goes, which it tells; that is less than 2^64 times.
func takeOut(u, v []uint64) uint64 {
	n := len(v)
	guess := guessLimb(u[n], u[n-1], u[n-2], v[n-1], v[n-2])
	if guess == 0 {
		return 0
	}
	if u[n] < subTimes(u[:n], v, guess) {
		addInto(u[:n], v)
		guess--
	}
	u[n] = 0
	return guess
}

// guessLimb guesses a quotient's limb by the three upper limbs of what is divided and the two upper ones of what
// it is divided by: it is right, or one too great.
func guessLimb(u2, u1, u0, v1, v0 uint64) uint64 {
	guess, rest := ^uint64(0), uint64(0)
	if u2 < v1 {
		guess, rest = bits.Div64(u2, u1, v1)
	} else {
		// u2 is v1 here, and the greatest limb leaves u1 + v1 of the upper two.
		var over uint64
		rest, over = bits.Add64(u1, v1, 0)
		if over != 0 {
			return guess
		}
	}
	for {
		hi, lo := bits.Mul64(guess, v0)
		if hi < rest || hi == rest && lo <= u0 {
			return guess
		}
		guess--
		var over uint64
		rest, over = bits.Add64(rest, v1, 0)
		if over != 0 {
			return guess
		}
	}
}

// subTimes takes x times w from z, which is as long as x, and tells what is borrowed from above z.
func subTimes(z, x []uint64, w uint64) uint64 {
	z = z[:len(x)]
	borrow := uint64(0)
	for i, v := range x {
		hi, lo := bits.Mul64(v, w)
		var c uint64
		lo, c = bits.Add64(lo, borrow, 0)
		hi += c
		z[i], c = bits.Sub64(z[i], lo, 0)
		borrow = hi + c
	}
	return borrow
}

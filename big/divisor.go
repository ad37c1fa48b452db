package big

import (
	"math/bits"

	"terrace/api"
)

// commonDivisor is Euclid's way, many steps at once as long as the upper limbs alone tell the quotients (Lehmer).
func commonDivisor(x, y api.Nat) api.Nat {
	if compare(x, y) < 0 {
		x, y = y, x
	}
	if len(y) > 1 {
		x, y = shorten(x, y)
	}
	if len(y) == 0 {
		return clone(x)
	}
	return ofLimb(limbDivisor(modLimb(x, y[0]), y[0]))
}

// shorten makes steps of Euclid's way till the lesser one has one limb or none.
func shorten(x, y api.Nat) (api.Nat, api.Nat) {
	// Two rooms and two spare ones, which change places: no step needs new memory but a whole division.
	a, b := clone(x), clone(y)
	spareA, spareB := make(api.Nat, len(x)), make(api.Nat, len(x))
	for len(b) > 1 {
		s := foresee(a, b)
		if s.b0 == 0 {
			_, r := divide(a, b)
			a, b = b, r
			continue
		}
		nextA, nextB := spareA[:len(a)], spareB[:len(a)]
		if s.odd {
			combine(nextA, b, a, s.b0, s.a0)
			combine(nextB, a, b, s.a1, s.b1)
		} else {
			combine(nextA, a, b, s.a0, s.b0)
			combine(nextB, b, a, s.b1, s.a1)
		}
		// The new a is not above the old b: both spare rooms stay long enough for it.
		spareA, spareB = a[:cap(a)], b[:cap(b)]
		a, b = trim(nextA), trim(nextB)
	}
	return a, b
}

// steps is what some steps of Euclid's way make of a and b: a0 a - b0 b and b1 b - a1 a, or, if they are odd, both
// with the opposite sign.
type steps struct {
	a0, b0, a1, b1 uint64
	odd            bool
}

// foresee finds steps by the upper 64 bits of a and the bits of b at the same places, as long as the bits below can't
// change a quotient (Collins' condition); a is not below b, and both have two limbs or more.
func foresee(a, b api.Nat) steps {
	n, m := len(a), len(b)
	s := uint(bits.LeadingZeros64(a[n-1]))
	x := a[n-1]<<s | a[n-2]>>(limbBits-s)
	y := uint64(0)
	switch n - m {
	case 0:
		y = b[n-1]<<s | b[n-2]>>(limbBits-s)
	case 1:
		y = b[n-2] >> (limbBits - s)
	}
	u0, u1, u2 := uint64(0), uint64(1), uint64(0)
	v0, v1, v2 := uint64(0), uint64(0), uint64(1)
	odd := true
	for y >= v2 && x-y >= v1+v2 {
		q, r := x/y, x%y
		x, y = y, r
		u0, u1, u2 = u1, u2, u1+q*u2
		v0, v1, v2 = v1, v2, v1+q*v2
		odd = !odd
	}
	return steps{a0: u0, b0: v0, a1: u1, b1: v1, odd: odd}
}

// combine lays u x - v y, which is not below 0 and has no more limbs than z, into z; x and y are not longer than z.
func combine(z, x, y api.Nat, u, v uint64) {
	carryX, carryY, borrow := uint64(0), uint64(0), uint64(0)
	for i := range z {
		var lowX, lowY uint64
		if i < len(x) {
			lowX = x[i]
		}
		if i < len(y) {
			lowY = y[i]
		}
		lowX, carryX = timesPlus(lowX, u, carryX)
		lowY, carryY = timesPlus(lowY, v, carryY)
		z[i], borrow = bits.Sub64(lowX, lowY, borrow)
	}
}

// timesPlus tells x u + carry: the lower limb, and the upper one.
func timesPlus(x, u, carry uint64) (uint64, uint64) {
	hi, lo := bits.Mul64(x, u)
	lo, c := bits.Add64(lo, carry, 0)
	return lo, hi + c
}

func modLimb(x api.Nat, w uint64) uint64 {
	r := uint64(0)
	for i := len(x) - 1; i >= 0; i-- {
		r = bits.Rem64(r, x[i], w)
	}
	return r
}

// limbDivisor takes out twos and differences; y is not 0.
func limbDivisor(x, y uint64) uint64 {
	if x == 0 {
		return y
	}
	twos := bits.TrailingZeros64(x | y)
	x >>= uint(bits.TrailingZeros64(x))
	for y != 0 {
		y >>= uint(bits.TrailingZeros64(y))
		if x > y {
			x, y = y, x
		}
		y -= x
	}
	return x << uint(twos)
}

package poly

import (
	"math/bits"

	"terrace/api"
)

// field is the numbers modulo a prime p, which is below 2^63; its polynomials have the lowest coefficient first, the
// last one not 0.
type field struct{ p uint64 }

func (f field) minus(a, b uint64) uint64 {
	if a < b {
		return a + f.p - b
	}
	return a - b
}

func (f field) times(a, b uint64) uint64 {
	high, low := bits.Mul64(a, b)
	return bits.Rem64(high, low, f.p)
}

func (f field) power(a, n uint64) uint64 {
	out := uint64(1)
	for ; n > 0; n >>= 1 {
		if n&1 == 1 {
			out = f.times(out, a)
		}
		a = f.times(a, a)
	}
	return out
}

// inverse tells 1 over a, which is not 0, by Fermat's theorem.
func (f field) inverse(a uint64) uint64 {
	return f.power(a, f.p-2)
}

// residue tells a modulo p.
func (f field) residue(a api.Int) uint64 {
	left := uint64(0)
	for i := len(a.Mag) - 1; i >= 0; i-- {
		left = bits.Rem64(left, a.Mag[i], f.p)
	}
	if a.Neg {
		return f.minus(0, left)
	}
	return left
}

// nearest tells the number nearest to 0 that is a modulo p.
func (f field) nearest(a uint64) api.Int {
	if a > f.p/2 {
		return api.Int{Neg: true, Mag: api.Nat{f.p - a}}
	}
	return api.Int{Mag: api.Nat{a}}
}

func (f field) image(p api.Poly) []uint64 {
	out := make([]uint64, len(p))
	for i, c := range p {
		out[i] = f.residue(c)
	}
	return withoutNoughts(out)
}

func (f field) scaled(a []uint64, c uint64) []uint64 {
	out := make([]uint64, len(a))
	for i, n := range a {
		out[i] = f.times(n, c)
	}
	return out
}

func (f field) monic(a []uint64) []uint64 {
	return f.scaled(a, f.inverse(a[len(a)-1]))
}

// rest tells what is left of a, which is changed, divided by b, whose lead is 1.
func (f field) rest(a, b []uint64) []uint64 {
	last := len(b) - 1
	for i := len(a) - len(b); i >= 0; i-- {
		top, part := a[i+last], a[i:i+last:i+last]
		for j := range part {
			part[j] = f.minus(part[j], f.times(top, b[j]))
		}
	}
	return withoutNoughts(a[:min(last, len(a))])
}

// divisor tells the greatest common divisor of a and b, both not 0, with the lead 1.
func (f field) divisor(a, b []uint64) []uint64 {
	return lastRest(f.monic(a), f.monic(b), f.rest, f.monic)
}

// lastRest tells the last remainder that is not 0, of a and b, of b and their remainder, and so on; both leads are 1,
// and both lists may be changed.
func lastRest(a, b []uint64, rest func(a, b []uint64) []uint64, monic func(a []uint64) []uint64) []uint64 {
	for {
		r := rest(a, b)
		if len(r) == 0 {
			return b
		}
		a, b = b, monic(r)
	}
}

func withoutNoughts(a []uint64) []uint64 {
	n := len(a)
	for n > 0 && a[n-1] == 0 {
		n--
	}
	return a[:n:n]
}

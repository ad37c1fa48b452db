// Package residue: numbers modulo a prime, and primes enough to reckon by: what divisors of polynomials in one variable
// (poly) and in several (mgcd) are found with, long determinants (chain), and factors without common ones (basis).
package residue

import (
	"math/bits"

	"terrace/api"
)

// Field is the numbers modulo a prime, which is odd and below 2^62. A number is held as the residue of 2^64 times
// itself (Montgomery), so that a product takes no division: only Of and One tell such residues, only Nearest reads
// them; but 0 is 0.
type Field struct {
	p       uint64
	inverse uint64 // of p, modulo 2^64
	one     uint64
	square  uint64 // what makes a residue one that is held
}

// Modulo tells the field of a prime p.
func Modulo(p uint64) Field {
	f := Field{p: p, inverse: p, one: bits.Rem64(1, 0, p)}
	// p itself is right in its lowest 3 bits; each step doubles them.
	for range 5 {
		f.inverse *= 2 - p*f.inverse
	}
	f.square = bits.Rem64(f.one, 0, p)
	return f
}

// Prime tells the field's prime.
func (f Field) Prime() api.Int {
	return api.Int{Mag: api.Nat{f.p}}
}

// One tells the number 1.
func (f Field) One() uint64 {
	return f.one
}

// Plus tells a + b.
func (f Field) Plus(a, b uint64) uint64 {
	if c := a + b; c < f.p {
		return c
	}
	return a + b - f.p
}

// Minus tells a - b.
func (f Field) Minus(a, b uint64) uint64 {
	if a < b {
		return a + f.p - b
	}
	return a - b
}

// Times tells a b.
func (f Field) Times(a, b uint64) uint64 {
	high, low := bits.Mul64(a, b)
	take, _ := bits.Mul64(low*f.inverse, f.p)
	if high < take {
		return high + f.p - take
	}
	return high - take
}

// Blend lays x a[i] + y b[i-1] + z b[i] into each a[i], b[-1] being 0; b is at least as long. Three products together
// are less than the prime times 2^64, so that they are brought down at once.
func (f Field) Blend(a, b []uint64, x, y, z uint64) {
	before := uint64(0)
	for i, n := range b[:len(a)] {
		high, low := bits.Mul64(x, a[i])
		more, less := bits.Mul64(y, before)
		low, carry := bits.Add64(low, less, 0)
		high += more + carry
		more, less = bits.Mul64(z, n)
		low, carry = bits.Add64(low, less, 0)
		high += more + carry
		take, _ := bits.Mul64(low*f.inverse, f.p)
		if high < take {
			high += f.p
		}
		a[i], before = high-take, n
	}
}

// Power tells a to the n.
func (f Field) Power(a, n uint64) uint64 {
	out := f.one
	for ; n > 0; n >>= 1 {
		if n&1 == 1 {
			out = f.Times(out, a)
		}
		a = f.Times(a, a)
	}
	return out
}

// Inverse tells 1 over a, which is not 0, by Fermat's theorem.
func (f Field) Inverse(a uint64) uint64 {
	return f.Power(a, f.p-2)
}

// Of tells a modulo the prime.
func (f Field) Of(a api.Int) uint64 {
	left := uint64(0)
	for i := len(a.Mag) - 1; i >= 0; i-- {
		_, left = bits.Div64(left, a.Mag[i], f.p)
	}
	left = f.Times(left, f.square)
	if a.Neg {
		return f.Minus(0, left)
	}
	return left
}

// Nearest tells the number nearest to 0 that is a modulo the prime.
func (f Field) Nearest(a uint64) api.Int {
	plain := f.Times(a, 1)
	switch {
	case plain == 0:
		return api.Int{}
	case plain > f.p/2:
		return api.Int{Neg: true, Mag: api.Nat{f.p - plain}}
	}
	return api.Int{Mag: api.Nat{plain}}
}

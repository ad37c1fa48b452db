package modp

import (
	"math/bits"

	"terrace/api"
)

// prime is a number below api.MaxPrime; residues are numbers below it.
type prime uint64

func (p prime) plus(a, b uint64) uint64 {
	return (a + b) % uint64(p)
}

func (p prime) minus(a, b uint64) uint64 {
	return (a + uint64(p) - b) % uint64(p)
}

func (p prime) times(a, b uint64) uint64 {
	return total{}.with(a, b).rest(p)
}

// raised tells a to the n.
func (p prime) raised(a, n uint64) uint64 {
	r := 1 % uint64(p)
	for i := bits.Len64(n) - 1; i >= 0; i-- {
		r = p.times(r, r)
		if n>>uint(i)&1 == 1 {
			r = p.times(r, a)
		}
	}
	return r
}

// inverse tells what makes 1 with a, which is not 0 (Fermat).
func (p prime) inverse(a uint64) uint64 {
	return p.raised(a, uint64(p)-2)
}

// of tells a's residue.
func (p prime) of(a api.Int) uint64 {
	r := uint64(0)
	for i := len(a.Mag) - 1; i >= 0; i-- {
		r = bits.Rem64(r, a.Mag[i], uint64(p))
	}
	if a.Neg {
		return p.minus(0, r)
	}
	return r
}

// total is a sum of products: a residue is taken of all of them at once. Two words hold far more of them than a
// polynomial has coefficients.
type total struct{ high, low uint64 }

// with tells the sum with a b added.
func (s total) with(a, b uint64) total {
	high, low := bits.Mul64(a, b)
	low, carry := bits.Add64(low, s.low, 0)
	high, _ = bits.Add64(high, s.high, carry)
	return total{high, low}
}

func (s total) rest(p prime) uint64 {
	return bits.Rem64(s.high, s.low, uint64(p))
}

// isPrime tells whether p is a prime below api.MaxPrime. To the bases 2, 3, 5 and 7 no other number below
// 3 215 031 751 looks like one (Jaeschke).
func isPrime(p uint64) bool {
	if p < 2 || p >= api.MaxPrime {
		return false
	}
	for _, base := range [...]uint64{2, 3, 5, 7} {
		if p%base == 0 {
			return p == base
		}
	}
	for _, base := range [...]uint64{2, 3, 5, 7} {
		if !prime(p).looksSo(base) {
			return false
		}
	}
	return true
}

// looksSo tells whether p, which is odd, looks like a prime to base (Miller, Rabin): modulo a prime 1 has no square
// roots but 1 and -1.
func (p prime) looksSo(base uint64) bool {
	before := uint64(p) - 1
	twos := bits.TrailingZeros64(before)
	x := p.raised(base, before>>uint(twos))
	if x == 1 {
		return true
	}
	for range twos {
		if x == before {
			return true
		}
		x = p.times(x, x)
	}
	return false
}

package poly

import (
	"terrace/api"
	"terrace/big"
	"terrace/residue"
)

// divisor tells the greatest common divisor of a and b: that of their contents times that of what is left of them.
func divisor(a, b api.Poly) api.Poly {
	switch {
	case len(a) == 0:
		return positive(b)
	case len(b) == 0:
		return positive(a)
	}
	c, _ := big.Gcd(content(a), content(b))
	return scaled(primitiveDivisor(primitive(a), primitive(b)), c)
}

func positive(p api.Poly) api.Poly {
	if len(p) > 0 && lead(p).Neg {
		return opposite(p)
	}
	return copied(p)
}

// primitiveDivisor tells the greatest common divisor of a and b, whose contents are 1, by their divisors modulo
// primes: over the whole numbers, remainders would grow with each step. No prime that leaves one of the leads makes
// a divisor's degree too low, and few make it too high.
func primitiveDivisor(a, b api.Poly) api.Poly {
	scale, _ := big.Gcd(lead(a), lead(b))
	var stock residue.Primes
	var sofar residue.Known
	for {
		f := field{stock.Next()}
		factor := f.Of(scale)
		if factor == 0 {
			continue
		}
		g := f.divisor(f.image(a), f.image(b))
		switch {
		case len(g) == 1:
			return api.Poly{big.From(1)}
		case len(sofar.Numbers) > 0 && len(g) > len(sofar.Numbers):
			continue
		case len(g) != len(sofar.Numbers):
			sofar = residue.Nothing(len(g))
		}
		if sofar.Take(f.Field, f.scaled(g, factor)) {
			continue
		}
		// A prime has changed nothing: that may be it.
		if g := primitive(sofar.Numbers); divides(g, a) && divides(g, b) {
			return g
		}
	}
}

func divides(b, a api.Poly) bool {
	_, ok := quotient(a, b)
	return ok
}

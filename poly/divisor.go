package poly

import (
	"terrace/api"
	"terrace/big"
)

// divisor tells the greatest common divisor of a and b: that of their contents times that of what is left of them.
func divisor(a, b api.Poly) api.Poly {
	switch {
	case len(a) == 0:
		return positive(b)
	case len(b) == 0:
		return positive(a)
	}
	c, _ := big.Gcd(content(a), content(b))
	return scaled(primitiveDivisor(primitive(a), primitive(b)), c)
}

func positive(p api.Poly) api.Poly {
	if len(p) > 0 && lead(p).Neg {
		return opposite(p)
	}
	return copied(p)
}

// primitiveDivisor tells the greatest common divisor of a and b, whose contents are 1, by their divisors modulo
// primes: over the whole numbers, remainders would grow with each step. No prime that leaves one of the leads makes
// a divisor's degree too low, and few make it too high.
func primitiveDivisor(a, b api.Poly) api.Poly {
	scale, _ := big.Gcd(lead(a), lead(b))
	var stock primes
	var sofar gathered
	for {
		f := field{stock.next()}
		factor := f.residue(scale)
		if factor == 0 {
			continue
		}
		g := f.divisor(f.image(a), f.image(b))
		switch {
		case len(g) == 1:
			return api.Poly{big.From(1)}
		case sofar.len() > 0 && len(g) > sofar.len():
			continue
		case len(g) != sofar.len():
			sofar = begun(len(g))
		}
		if sofar.take(f, f.scaled(g, factor)) {
			continue
		}
		// A prime has changed nothing: that may be it.
		if g := primitive(sofar.sum); divides(g, a) && divides(g, b) {
			return g
		}
	}
}

func divides(b, a api.Poly) bool {
	_, ok := quotient(a, b)
	return ok
}

// gathered is what is known of a polynomial modulo a product of primes: its coefficients nearest to 0.
type gathered struct {
	sum     api.Poly
	modulus api.Int
}

func begun(n int) gathered {
	return gathered{sum: room(n), modulus: big.From(1)}
}

func (s *gathered) len() int {
	return len(s.sum)
}

// take adds what is known modulo one prime more, and tells whether that changed anything.
func (s *gathered) take(f field, image []uint64) bool {
	changed := false
	inverse := f.inverse(f.residue(s.modulus))
	for i, c := range s.sum {
		step := f.times(f.minus(image[i], f.residue(c)), inverse)
		if step != 0 {
			s.sum[i] = plus(c, times(s.modulus, f.nearest(step)))
			changed = true
		}
	}
	s.modulus = times(s.modulus, api.Int{Mag: api.Nat{f.p}})
	return changed
}

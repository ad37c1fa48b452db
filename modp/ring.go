package modp

import (
	"math/bits"

	"terrace/api"
)

// trimmed tells f without noughts at its end.
func trimmed(f api.FPoly) api.FPoly {
	for len(f) > 0 && f[len(f)-1] == 0 {
		f = f[:len(f)-1]
	}
	return f
}

// merged tells what join makes of the coefficients of f and g, one by one.
func merged(f, g api.FPoly, join func(a, b uint64) uint64) api.FPoly {
	r := make(api.FPoly, max(len(f), len(g)))
	copy(r, f)
	for i := range r {
		b := uint64(0)
		if i < len(g) {
			b = g[i]
		}
		r[i] = join(r[i], b)
	}
	return trimmed(r)
}

// coefficient tells the one of x^k in f g.
func (p prime) coefficient(f, g api.FPoly, k int) uint64 {
	var sum total
	for i := max(0, k-len(g)+1); i <= min(k, len(f)-1); i++ {
		sum = sum.with(f[i], g[k-i])
	}
	return sum.rest(p)
}

// product tells f g, of whatever degree.
func (p prime) product(f, g api.FPoly) api.FPoly {
	if len(f) == 0 || len(g) == 0 {
		return nil
	}
	r := make(api.FPoly, len(f)+len(g)-1)
	for k := range r {
		r[k] = p.coefficient(f, g, k)
	}
	return r
}

// monic tells f divided by its last coefficient, 0 of 0, in new memory.
func (p prime) monic(f api.FPoly) api.FPoly {
	if len(f) == 0 {
		return nil
	}
	r := make(api.FPoly, len(f))
	c := p.inverse(f[len(f)-1])
	for i, a := range f {
		r[i] = p.times(a, c)
	}
	return r
}

// divide tells f's quotient by g, which is not 0, and the rest.
func (p prime) divide(f, g api.FPoly) (quo, rest api.FPoly) {
	degree := len(g) - 1
	quo = make(api.FPoly, max(0, len(f)-degree))
	c := p.inverse(g[degree])
	for k := len(quo) - 1; k >= 0; k-- {
		// The quotient's coefficients below this one are still 0, so that they add nothing.
		left := p.minus(f[k+degree], p.coefficient(quo, g, k+degree))
		quo[k] = p.times(left, c)
	}
	rest = make(api.FPoly, min(len(f), degree))
	for k := range rest {
		rest[k] = p.minus(f[k], p.coefficient(quo, g, k))
	}
	return quo, trimmed(rest)
}

// power tells f to the n modulo g, which is not 0.
func (p prime) power(f api.FPoly, n uint64, g api.FPoly) api.FPoly {
	_, r := p.divide(api.FPoly{1}, g)
	_, f = p.divide(f, g)
	for i := bits.Len64(n) - 1; i >= 0; i-- {
		_, r = p.divide(p.product(r, r), g)
		if n>>uint(i)&1 == 1 {
			_, r = p.divide(p.product(r, f), g)
		}
	}
	return r
}

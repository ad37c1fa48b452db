package berl

import (
	"slices"

	"terrace/api"
	"terrace/residue"
)

// prime is one below api.MaxSmall: a word holds the sum of far more products of numbers below it than there are
// coefficients in a polynomial, so that residues are taken seldom.
type prime uint64

// plus adds c f to what stands in sum, which is longer or as long, and takes no residues.
func plus(sum, f []uint64, c uint64) {
	sum = sum[:len(f)]
	for i, a := range f {
		sum[i] += c * a
	}
}

// times multiplies all of f by c in its place, and takes residues.
func (p prime) times(f []uint64, c uint64) {
	for i, a := range f {
		f[i] = a % uint64(p) * c % uint64(p)
	}
}

// inverse tells what makes 1 with a, which is not 0 (Fermat).
func (p prime) inverse(a uint64) uint64 {
	r := uint64(1)
	for n := uint64(p) - 2; n > 0; n /= 2 {
		if n%2 == 1 {
			r = r * a % uint64(p)
		}
		a = a * a % uint64(p)
	}
	return r
}

// value tells f's at x.
func (p prime) value(f api.FPoly, x uint64) uint64 {
	r := uint64(0)
	for _, a := range slices.Backward(f) {
		r = (r*x + a) % uint64(p)
	}
	return r
}

// rest tells f modulo g, which is monic, in f's memory.
func (p prime) rest(f []uint64, g api.FPoly) api.FPoly {
	degree := len(g) - 1
	for k := len(f) - 1; k >= degree; k-- {
		if c := f[k] % uint64(p); c != 0 {
			plus(f[k-degree:k], g[:degree], uint64(p)-c)
		}
	}
	f = f[:min(degree, len(f))]
	p.times(f, 1)
	return residue.Trimmed(f)
}

// product tells f h modulo g, which is monic.
func (p prime) product(f, h, g api.FPoly) api.FPoly {
	r := make([]uint64, len(f)+len(h))
	for i, c := range f {
		if c != 0 {
			plus(r[i:], h, c)
		}
	}
	return p.rest(r, g)
}

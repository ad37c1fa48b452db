package berl

import (
	"slices"

	"terrace/api"
	"terrace/modp"
	"terrace/residue"
)

// factors tells the monic irreducible factors of f, which is monic and has no squares (Berlekamp).
func (p prime) factors(f api.FPoly) []api.FPoly {
	kernel := p.kernel(f)
	parts := []api.FPoly{slices.Clone(f)}
splitting:
	for _, v := range kernel {
		// A part that is split off by v is not asked for v again: one number alone is v's value there.
		for i := range parts {
			w := p.rest(slices.Clone(v), parts[i])
			if len(w) < 2 {
				continue
			}
			values := p.minimal(w, parts[i])
			for x := range uint64(p) {
				if len(parts) == len(kernel) {
					break splitting
				}
				if p.value(values, x) != 0 {
					continue
				}
				part, left := p.split(parts[i], w, x)
				if len(left) == 1 {
					break
				}
				parts[i] = left
				parts = append(parts, part)
			}
		}
	}
	return parts
}

// split tells the part of f modulo which v is x, and the other one.
func (p prime) split(f, v api.FPoly, x uint64) (part, left api.FPoly) {
	less, _ := modp.Sub(v, residue.Trimmed(api.FPoly{x}), uint64(p))
	part, _ = modp.Gcd(f, less, uint64(p))
	left, _, _ = modp.DivMod(f, part, uint64(p))
	return part, left
}

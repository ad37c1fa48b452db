package square

import (
	"slices"

	"terrace/api"
	"terrace/poly"
)

// peeled tells the parts of f, which is primitive, by Yun's way. With a1 the part that stands in f once, a2 twice and
// so on, left is the product of the parts from an on, and rest, when the slope of left is taken off, is the sum over
// them of (i - n) ai' left/ai. There an's own part is gone: an is just what the two have in common.
func peeled(f api.Poly) (told []api.Factor) {
	defer func() { told = copied(told) }()
	slope := derivative(f)
	common := divisor(f, slope)
	left, rest := without(f, common), without(slope, common)
	for n := 1; poly.Deg(left) > 0; n++ {
		rest = less(rest, derivative(left))
		part := divisor(left, rest)
		if poly.Deg(part) > 0 {
			told = append(told, api.Factor{P: part, N: n})
		}
		left, rest = without(left, part), without(rest, part)
	}
	return told
}

// copied tells the parts in memory of their own, without the room that a list has behind it once it has grown.
func copied(parts []api.Factor) []api.Factor {
	if len(parts) == 0 {
		return nil
	}
	out := make([]api.Factor, len(parts))
	for i, f := range parts {
		p := make(api.Poly, len(f.P))
		for j, c := range f.P {
			p[j] = api.Int{Neg: c.Neg, Mag: slices.Clone(c.Mag)}
		}
		out[i] = api.Factor{P: p, N: f.N}
	}
	return out
}

func derivative(p api.Poly) api.Poly {
	d, _ := poly.Der(p)
	return d
}

func divisor(a, b api.Poly) api.Poly {
	d, _ := poly.Gcd(a, b)
	return d
}

func less(a, b api.Poly) api.Poly {
	d, _ := poly.Sub(a, b)
	return d
}

// without tells a divided by b, which divides it.
func without(a, b api.Poly) api.Poly {
	q, _ := poly.Exact(a, b)
	return q
}

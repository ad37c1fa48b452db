package poly

import (
	"terrace/api"
	"terrace/big"
)

// joined tells the polynomial of what op makes of the coefficients of p and q.
func joined(p, q api.Poly, op func(a, b api.Int) api.Int) api.Poly {
	out := room(max(len(p), len(q)))
	for i := range out {
		out[i] = op(at(p, i), at(q, i))
	}
	return trimmed(out)
}

// at tells the i-th coefficient of p, 0 above its degree.
func at(p api.Poly, i int) api.Int {
	if i < len(p) {
		return p[i]
	}
	return api.Int{}
}

// product tells p times q, neither of them 0.
func product(p, q api.Poly) api.Poly {
	out := room(len(p) + len(q) - 1)
	for i, a := range p {
		if isZero(a) {
			continue
		}
		for j, b := range q {
			out[i+j] = plus(out[i+j], times(a, b))
		}
	}
	return trimmed(out)
}

func opposite(p api.Poly) api.Poly {
	out := room(len(p))
	for i, c := range p {
		out[i] = big.Neg(c)
	}
	return trimmed(out)
}

func scaled(p api.Poly, c api.Int) api.Poly {
	out := room(len(p))
	for i, a := range p {
		out[i] = times(a, c)
	}
	return trimmed(out)
}

func derivative(p api.Poly) api.Poly {
	if len(p) == 0 {
		return nil
	}
	out := room(len(p) - 1)
	for i := range out {
		out[i] = times(p[i+1], big.From(int64(i+1)))
	}
	return trimmed(out)
}

// content begins at the lead, the one coefficient that is surely not 0, and stops at 1: nothing smaller divides.
func content(p api.Poly) api.Int {
	g := api.Int{}
	for i := len(p) - 1; i >= 0 && !isOne(g); i-- {
		g, _ = big.Gcd(g, p[i])
	}
	return g
}

// primitive tells p divided by its content, with a positive lead.
func primitive(p api.Poly) api.Poly {
	if len(p) == 0 {
		return nil
	}
	c := content(p)
	if lead(p).Neg {
		c = big.Neg(c)
	}
	return over(p, c)
}

// over tells p divided by c, which divides each coefficient.
func over(p api.Poly, c api.Int) api.Poly {
	if isOne(c) {
		return copied(p)
	}
	out := room(len(p))
	for i, a := range p {
		out[i], _, _ = big.Divide(a, c)
	}
	return out
}

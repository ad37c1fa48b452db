package poly

import (
	"slices"

	"terrace/api"
	"terrace/big"
)

// room makes n coefficients that are 0, to be filled; there is no room behind them.
func room(n int) api.Poly {
	return make(api.Poly, n)
}

// trimmed leaves out the upper coefficients that are 0; the room that they had is cut off, so that whoever appends
// gets memory of his own.
func trimmed(p api.Poly) api.Poly {
	n := len(p)
	for n > 0 && isZero(p[n-1]) {
		n--
	}
	if n == 0 {
		return nil
	}
	return p[:n:n]
}

// copied lays all limbs of p into one block, each coefficient closed off from its neighbour.
func copied(p api.Poly) api.Poly {
	if len(p) == 0 {
		return nil
	}
	total := 0
	for _, c := range p {
		total += len(c.Mag)
	}
	block, at := make(api.Nat, total), 0
	out := room(len(p))
	for i, c := range p {
		if end := at + copy(block[at:], c.Mag); end > at {
			out[i] = api.Int{Neg: c.Neg, Mag: block[at:end:end]}
			at = end
		}
	}
	return out
}

// clone tells 0 with a nil list, so that it looks one way in every answer.
func clone(a api.Int) api.Int {
	if isZero(a) {
		return api.Int{}
	}
	return api.Int{Neg: a.Neg, Mag: slices.Clone(a.Mag)}
}

// lead tells the last coefficient of p, which is not 0.
func lead(p api.Poly) api.Int {
	return p[len(p)-1]
}

func isZero(a api.Int) bool {
	return len(a.Mag) == 0
}

func isOne(a api.Int) bool {
	return !a.Neg && len(a.Mag) == 1 && a.Mag[0] == 1
}

func plus(a, b api.Int) api.Int {
	c, _ := big.Add(a, b)
	return c
}

func minus(a, b api.Int) api.Int {
	c, _ := big.Sub(a, b)
	return c
}

func times(a, b api.Int) api.Int {
	c, _ := big.Mul(a, b)
	return c
}

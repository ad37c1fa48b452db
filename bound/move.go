package bound

import (
	"slices"

	"terrace/api"
	"terrace/big"
)

// shifted goes by Horner's rule: with out from i on the shifted upper part of p, p[i] is taken in from below, and what
// stood there is moved by one place and added c times.
func shifted(p api.Poly, c api.Int) api.Poly {
	out := copied(p)
	if big.Sign(c) == 0 {
		return out
	}
	for i := len(out) - 2; i >= 0; i-- {
		for j := i; j < len(out)-1; j++ {
			out[j] = plus(out[j], times(c, out[j+1]))
		}
	}
	return out
}

func mirrored(p api.Poly) api.Poly {
	out := copied(p)
	for i := 1; i < len(out); i += 2 {
		out[i] = big.Neg(out[i])
	}
	return out
}

// turned leaves out the lowest noughts of p ahead, which would be the last coefficients.
func turned(p api.Poly) api.Poly {
	low := 0
	for low < len(p) && big.Sign(p[low]) == 0 {
		low++
	}
	out := copied(p[low:])
	slices.Reverse(out)
	return out
}

// stretched never shifts by more than MaxExp times MaxDeg, which big takes.
func stretched(p api.Poly, k int) api.Poly {
	out := copied(p)
	for i := range out {
		n := k * i
		if k < 0 {
			n = -k * (len(p) - 1 - i)
		}
		out[i], _ = big.Left(out[i], n)
	}
	return out
}

// copied tells p in memory of its own, 0 with a nil list, so that it looks one way in every answer.
func copied(p api.Poly) api.Poly {
	if len(p) == 0 {
		return nil
	}
	out := make(api.Poly, len(p))
	for i, a := range p {
		if len(a.Mag) > 0 {
			out[i] = api.Int{Neg: a.Neg, Mag: slices.Clone(a.Mag)}
		}
	}
	return out
}

func plus(a, b api.Int) api.Int {
	c, _ := big.Add(a, b)
	return c
}

func times(a, b api.Int) api.Int {
	c, _ := big.Mul(a, b)
	return c
}

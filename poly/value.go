package poly

import (
	"terrace/api"
	"terrace/big"
	"terrace/rat"
)

// value goes by Horner's rule over the powers of a's denominator: so one division alone brings into lowest terms.
func value(p api.Poly, a api.Rat) api.Rat {
	sum, scale := api.Int{}, big.From(1)
	for i := len(p) - 1; i >= 0; i-- {
		sum = plus(times(sum, a.Num), times(p[i], scale))
		if i > 0 {
			scale = times(scale, api.Int{Mag: a.Den})
		}
	}
	v, _ := rat.Make(sum, scale.Mag)
	return v
}

// values does the same with both ends of s: sums and products of intervals are the least ones there are, whatever
// their ends are written over.
func values(p api.Poly, s api.Span) api.Span {
	lo, hi, den := overOne(s)
	low, high, scale := api.Int{}, api.Int{}, big.From(1)
	for i := len(p) - 1; i >= 0; i-- {
		low, high = extremes([4]api.Int{times(low, lo), times(low, hi), times(high, lo), times(high, hi)})
		c := times(p[i], scale)
		low, high = plus(low, c), plus(high, c)
		if i > 0 {
			scale = times(scale, den)
		}
	}
	first, _ := rat.Make(low, scale.Mag)
	last, _ := rat.Make(high, scale.Mag)
	return api.Span{Lo: first, Hi: last}
}

// overOne tells the ends of s as numbers over one denominator.
func overOne(s api.Span) (lo, hi, den api.Int) {
	d, e := api.Int{Mag: s.Lo.Den}, api.Int{Mag: s.Hi.Den}
	g, _ := big.Gcd(d, e)
	restD, _, _ := big.Divide(d, g)
	restE, _, _ := big.Divide(e, g)
	return times(s.Lo.Num, restE), times(s.Hi.Num, restD), times(d, restE)
}

func extremes(numbers [4]api.Int) (low, high api.Int) {
	low, high = numbers[0], numbers[0]
	for _, n := range numbers {
		if big.Cmp(n, low) < 0 {
			low = n
		}
		if big.Cmp(n, high) > 0 {
			high = n
		}
	}
	return low, high
}

package rat

import (
	"cmp"

	"terrace/api"
	"terrace/big"
)

// lowest tells n over d, which is not 0.
func lowest(n api.Int, d api.Nat) api.Rat {
	g := common(n.Mag, d)
	// Copied, since what is divided by 1 is itself.
	return api.Rat{Num: clone(over(n, g)), Den: cloneNat(over(api.Int{Mag: d}, g).Mag)}
}

func opposite(a api.Rat) api.Rat {
	return api.Rat{Num: big.Neg(a.Num), Den: cloneNat(a.Den)}
}

// inverse tells 1 over a, which is not 0.
func inverse(a api.Rat) api.Rat {
	return api.Rat{Num: api.Int{Neg: a.Num.Neg, Mag: cloneNat(a.Den)}, Den: cloneNat(a.Num.Mag)}
}

// sum takes out the denominators' common divisor ahead: what the sum's numerator can have in common with its
// denominator is in that divisor alone.
func sum(a, b api.Rat) api.Rat {
	g := common(a.Den, b.Den)
	restA, restB := over(api.Int{Mag: a.Den}, g), over(api.Int{Mag: b.Den}, g)
	n := plus(times(a.Num, restB), times(b.Num, restA))
	h := common(n.Mag, g)
	return api.Rat{Num: over(n, h), Den: timesNat(restA, over(api.Int{Mag: b.Den}, h).Mag).Mag}
}

// product takes out what each numerator has in common with the other's denominator: nothing else can be taken out.
func product(a, b api.Rat) api.Rat {
	g, h := common(a.Num.Mag, b.Den), common(b.Num.Mag, a.Den)
	n := times(over(a.Num, g), over(b.Num, h))
	d := timesNat(over(api.Int{Mag: a.Den}, h), over(api.Int{Mag: b.Den}, g).Mag)
	return api.Rat{Num: n, Den: d.Mag}
}

// power tells a to the n, n from 0 to MaxExp.
func power(a api.Rat, n int) api.Rat {
	num, _ := big.Pow(a.Num, n)
	den, _ := big.Pow(api.Int{Mag: a.Den}, n)
	return api.Rat{Num: num, Den: den.Mag}
}

func compare(a, b api.Rat) int {
	if s, t := big.Sign(a.Num), big.Sign(b.Num); s != t || s == 0 {
		return cmp.Compare(s, t)
	}
	return big.Cmp(timesNat(a.Num, b.Den), timesNat(b.Num, a.Den))
}

// floor tells the greatest number not above a, and what a's numerator leaves.
func floor(a api.Rat) (n, left api.Int) {
	n, left, _ = big.Divide(a.Num, api.Int{Mag: a.Den})
	return n, left
}

package span

import (
	"slices"

	"terrace/api"
	"terrace/rat"
)

// between copies both ends: one number may be both of them, or an end of another interval.
func between(lo, hi api.Rat) api.Span {
	return api.Span{Lo: clone(lo), Hi: clone(hi)}
}

// round tells the least interval that has all of the numbers.
func round(numbers [4]api.Rat) api.Span {
	lo, hi := numbers[0], numbers[0]
	for _, a := range numbers {
		lo, hi = less(lo, a), greater(hi, a)
	}
	return between(lo, hi)
}

// powers tells the least interval that has the n-th powers of s's numbers, n from 0 to MaxExp.
func powers(s api.Span, n int) api.Span {
	atLo, atHi := power(s.Lo, n), power(s.Hi, n)
	switch {
	case n == 0, n%2 == 1, rat.Sign(s.Lo) >= 0:
		return api.Span{Lo: atLo, Hi: atHi}
	case rat.Sign(s.Hi) <= 0:
		return api.Span{Lo: atHi, Hi: atLo}
	}
	// Even powers fall to 0 and rise again: the least one is inside, not at an end.
	return api.Span{Lo: api.Rat{Den: api.Nat{1}}, Hi: greater(atLo, atHi)}
}

func less(a, b api.Rat) api.Rat {
	if rat.Cmp(b, a) < 0 {
		return b
	}
	return a
}

func greater(a, b api.Rat) api.Rat {
	if rat.Cmp(b, a) > 0 {
		return b
	}
	return a
}

func plus(a, b api.Rat) api.Rat {
	c, _ := rat.Add(a, b)
	return c
}

func minus(a, b api.Rat) api.Rat {
	c, _ := rat.Sub(a, b)
	return c
}

func times(a, b api.Rat) api.Rat {
	c, _ := rat.Mul(a, b)
	return c
}

func power(a api.Rat, n int) api.Rat {
	c, _ := rat.Pow(a, n)
	return c
}

func clone(a api.Rat) api.Rat {
	return api.Rat{Num: api.Int{Neg: a.Num.Neg, Mag: cloneNat(a.Num.Mag)}, Den: cloneNat(a.Den)}
}

// cloneNat tells 0 as nil, so that it looks one way in every answer.
func cloneNat(x api.Nat) api.Nat {
	if len(x) == 0 {
		return nil
	}
	return slices.Clone(x)
}

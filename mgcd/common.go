package mgcd

import (
	"cmp"
	"slices"

	"terrace/api"
	"terrace/big"
)

const (
	longest = 1 << 16 // terms of a divisor on the way to another one
	widest  = 1 << 24 // products of terms that are held at once
	tries   = 1 << 10 // of a search; a second one is next to never needed
)

// endless is thrown where a divisor has too many terms to be written out, or does not show.
type endless struct{}

// common tells the greatest common divisor of all sums, its lead positive; 0, if all are 0. It calls itself, by way of
// attempt, for coefficients, in which a variable less stands each time.
func common(list []sum) sum {
	var plain []sum // what is left when the greatest term is taken out
	var out term
	for _, s := range list {
		if len(s) == 0 {
			continue
		}
		d := single(s)
		if len(plain) == 0 {
			out.at = d.at
		}
		out.at = lesser(out.at, d.at)
		out.coef, _ = big.Gcd(out.coef, d.coef)
		plain = append(plain, s.over(d))
	}
	if len(plain) == 0 {
		return nil
	}
	return product(plainCommon(plain), sum{out})
}

// plainCommon tells the greatest common divisor of sums that no term but 1 divides. It divides the shortest one; as
// long as that is not it, it is sought in a mixture of all that are left, so that no divisor of a few has to be found
// on the way: that might be far longer.
func plainCommon(list []sum) sum {
	slices.SortStableFunc(list, func(a, b sum) int { return cmp.Compare(len(a), len(b)) })
	g, left := list[0], list[1:]
	for l := (&luck{}); !isNumber(g); {
		left = slices.DeleteFunc(left, func(s sum) bool { return divides(g, s) })
		if len(left) == 0 {
			break
		}
		g = shared(g, l.mixture(left))
	}
	return g
}

// mixture tells a sum of multiples of all, without the greatest term that divides it.
func (l *luck) mixture(list []sum) sum {
	if len(list) == 1 {
		return list[0]
	}
	var out sum
	for _, s := range list {
		c := api.Int{Mag: api.Nat{l.number()>>40 + 1}}
		for _, t := range s {
			out = append(out, term{at: t.at, coef: times(t.coef, c)})
		}
	}
	out = gathered(out)
	return out.over(single(out))
}

// shared tells the greatest common divisor of a and b, which no term but 1 divides, its lead positive.
func shared(a, b sum) sum {
	l, d := &luck{}, strides(a, b)
	a, b = a.shrunk(d), b.shrunk(d)
	for range tries {
		if g, ok := l.attempt(a, b); ok {
			return g.stretched(d)
		}
	}
	panic(endless{})
}

// attempt tells the greatest common divisor, unless luck is bad. It is proved by what it divides and by its degrees,
// since no spot shows too low ones.
func (l *luck) attempt(a, b sum) (g sum, ok bool) {
	defer func() {
		switch r := recover(); r.(type) {
		case nil:
		case unlucky, coprime:
			g, ok = nil, false
		default:
			panic(r)
		}
	}()
	both := l.next().sharedDegrees(a, b)
	var idle []int // what does not stand in the divisor
	for v, d := range both {
		if d == 0 {
			idle = append(idle, v)
		}
	}
	inA, inB := a.degrees(), b.degrees()
	switch vars := set(idle...); {
	case len(idle) == api.MaxVars:
		return constant(big.From(1)), true
	case vars.meets(a) || vars.meets(b):
		return common(append(a.parts(vars), b.parts(vars)...)), true
	case both == inA:
		return a, divides(a, b)
	case both == inB:
		return b, divides(b, a)
	}
	return planned(a, b, both).divisor(l), true
}

// meets tells whether a variable of the set stands in s.
func (m mono) meets(s sum) bool {
	for _, t := range s {
		if t.at.only(m) != (mono{}) {
			return true
		}
	}
	return false
}

// divisor tells the greatest common divisor of a and b.
func (p *plan) divisor(l *luck) sum {
	found := p.sought(l)
	x := set(p.x)
	found = exactly(found, common(found.parts(x)))
	inA, inB := p.a.parts(x), p.b.parts(x)
	if p.rest {
		idle := exactly(common(inA), common(append(inA, inB...)))
		g := exactly(p.a, product(idle, found))
		if !divides(g, p.b) {
			panic(unlucky{})
		}
		return positive(g)
	}
	if !divides(found, p.a) || !divides(found, p.b) {
		panic(unlucky{})
	}
	return positive(product(found, common(append(inA, inB...))))
}

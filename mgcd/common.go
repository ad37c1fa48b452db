package mgcd

import (
	"cmp"
	"slices"

	"terrace/api"
	"terrace/big"
)

const (
	shortest = 1 << 8  // the limit of the first hunt
	longest  = 1 << 17 // that of the last one
	widest   = 1 << 24 // products of terms that are held at once by a hunt
	tries    = 1 << 5  // of a hunt; a second one is next to never needed
)

// endless is thrown where a hunt meets what is too long for it, or has no luck.
type endless struct{}

// hunt is a search for divisors in which nothing that is met has many more terms than its limit. All that it tells is
// proved; but it may tell nothing.
type hunt struct{ limit int }

// common tells the greatest common divisor of all sums; 0, if all are 0. What is short is searched for first, since
// there is often a long way to it beside the short one; if nothing is met, it is found plainly.
func common(list []sum) ratio {
	for limit := shortest; limit <= longest; limit *= 8 {
		if g, ok := met(func() ratio { return hunt{limit}.common(list) }); ok {
			return g
		}
	}
	return whole(plainly(list))
}

// met tells what a search tells, unless that is endless.
func met(search func() ratio) (g ratio, ok bool) {
	defer func() {
		switch r := recover(); r.(type) {
		case nil:
		case endless:
			g, ok = ratio{}, false
		default:
			panic(r)
		}
	}()
	return search(), true
}

// common calls itself, by way of attempt, for coefficients, in which a variable less stands each time.
func (h hunt) common(list []sum) ratio {
	var plain []sum // what is left when the greatest term is taken out
	var out term
	for _, s := range list {
		if len(s) == 0 {
			continue
		}
		d := single(s)
		if len(plain) == 0 {
			out.at = d.at
		}
		out.at = lesser(out.at, d.at)
		out.coef, _ = big.Gcd(out.coef, d.coef)
		plain = append(plain, s.over(d))
	}
	if len(plain) == 0 {
		return whole(nil)
	}
	g := h.plainCommon(plain)
	return ratio{h.product(g.num, sum{out}), g.den}
}

// plainCommon tells the greatest common divisor of sums that no term but 1 divides. It divides the shortest one; as
// long as that is not it, it is sought in a mixture of all that are left, so that no divisor of a few has to be found
// on the way: that might be far longer. A mixture may have a divisor that one of them has not; then that one is taken.
func (h hunt) plainCommon(list []sum) ratio {
	slices.SortStableFunc(list, func(a, b sum) int { return cmp.Compare(len(a), len(b)) })
	g, left := whole(list[0]), list[1:]
	l := lucky(list...)
	for mixed := true; !g.isNumber(); mixed = !mixed {
		left = slices.DeleteFunc(left, func(s sum) bool { return divides(g.num, h.product(s, g.den)) })
		switch {
		case len(left) == 0:
			return g
		case mixed:
			g = h.joined(g, l.mixture(left))
		default:
			g = h.joined(g, left[0])
		}
	}
	return g
}

// joined tells the greatest common divisor of g and s.
func (h hunt) joined(g ratio, s sum) ratio {
	if isUnit(g.den) {
		return h.shared(g.num, s)
	}
	both := h.common([]sum{g.num, h.product(s, g.den)})
	return h.shortened(ratio{both.num, h.product(both.den, g.den)})
}

// mixture tells a sum of multiples of all, without the greatest term that divides it.
func (l *luck) mixture(list []sum) sum {
	if len(list) == 1 {
		return list[0]
	}
	var out sum
	for _, s := range list {
		c := api.Int{Mag: api.Nat{l.Number()>>40 + 1}}
		for _, t := range s {
			out = append(out, term{at: t.at, coef: times(t.coef, c)})
		}
	}
	out = gathered(out)
	if len(out) == 0 {
		return list[0]
	}
	return out.over(single(out))
}

// shared tells the greatest common divisor of a and b, which no term but 1 divides.
func (h hunt) shared(a, b sum) ratio {
	d := strides(a, b)
	a, b = a.shrunk(d), b.shrunk(d)
	l := lucky(a, b)
	for range tries {
		if g, ok := h.attempt(l, a, b); ok {
			return h.stretched(g, d)
		}
	}
	panic(endless{})
}

// attempt tells the greatest common divisor, unless luck is bad. It is proved by what it divides and by its degrees,
// since no spot shows too low ones.
func (h hunt) attempt(l *luck, a, b sum) (g ratio, ok bool) {
	defer func() {
		switch r := recover(); r.(type) {
		case nil:
		case unlucky, coprime:
			g, ok = ratio{}, false
		default:
			panic(r)
		}
	}()
	both := l.next().sharedDegrees(a, b)
	var idle []int // what does not stand in the divisor
	for v, d := range both {
		if d == 0 {
			idle = append(idle, v)
		}
	}
	inA, inB := a.degrees(), b.degrees()
	switch vars := set(idle...); {
	case len(idle) == api.MaxVars:
		return whole(constant(big.From(1))), true
	case vars.meets(a) || vars.meets(b):
		return h.common(append(a.parts(vars), b.parts(vars)...)), true
	case both == inA:
		return whole(a), divides(a, b)
	case both == inB:
		return whole(b), divides(b, a)
	}
	for _, p := range plans(a, b, both) {
		if g, ok := met(func() ratio { return h.follow(p, l, both) }); ok {
			return g, true
		}
	}
	if g, ok := h.unstranded(a, b); ok {
		return h.shortened(g), true
	}
	panic(endless{})
}

// meets tells whether a variable of the set stands in s.
func (m mono) meets(s sum) bool {
	for _, t := range s {
		if t.at.only(m) != (mono{}) {
			return true
		}
	}
	return false
}

// follow tells the greatest common divisor of a plan's a and b. What is found is proved by its degree in x, which no
// spot shows too low: if it divides both, it is the divisor, without what of it x does not stand in; and if a divides
// b times it, it is what is left of a, since that divides it, having nothing in common with what is left of b.
func (h hunt) follow(p *plan, l *luck, both degrees) ratio {
	h.prepare(p, both)
	x := set(p.x)
	found := h.sought(p, l)
	idle := h.common(found.parts(x))
	found = h.written(ratio{h.product(found, idle.den), idle.num})
	inA, inB := p.a.parts(x), p.b.parts(x)
	idle = h.common(append(inA, inB...))
	if p.by != leftOf {
		if !divides(found, p.a) || !divides(found, p.b) {
			panic(unlucky{})
		}
		return h.shortened(ratio{h.product(found, idle.num), idle.den})
	}
	own := h.common(inA)
	more := h.shortened(ratio{h.product(own.num, idle.den), h.product(own.den, idle.num)})
	g := ratio{h.product(p.a, more.den), h.product(found, more.num)}
	if !divides(g.num, h.product(p.b, g.den)) {
		panic(unlucky{})
	}
	return h.shortened(g)
}

// shortened tells r, written out if it is short.
func (h hunt) shortened(r ratio) ratio {
	return r.shortened(api.MaxTerms)
}

// written tells r, which has to be short enough to go on with.
func (h hunt) written(r ratio) sum {
	if r = r.shortened(max(h.limit, api.MaxTerms)); !isUnit(r.den) {
		panic(endless{})
	}
	return r.num
}

// stretched tells r with each exponent times its stride.
func (h hunt) stretched(r ratio, d degrees) ratio {
	for _, s := range []sum{r.num, r.den} {
		high := s.degrees()
		for v := range high {
			high[v] *= d[v]
		}
		high.fit()
	}
	return ratio{r.num.stretched(d), r.den.stretched(d)}
}

// product tells a b, if there is room for it.
func (h hunt) product(a, b sum) sum {
	if len(a)*len(b) > widest {
		panic(endless{})
	}
	high := b.degrees()
	for v, d := range a.degrees() {
		high[v] += d
	}
	high.fit()
	return product(a, b)
}

// fit throws what exponents there is no room for.
func (d degrees) fit() {
	for _, e := range d {
		if e > highest {
			panic(endless{})
		}
	}
}

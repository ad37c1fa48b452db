package mgcd

import (
	"cmp"
	"math/bits"
	"slices"

	"terrace/api"
	"terrace/residue"
)

// aim is what a plan seeks, and by what its lead is known.
type aim int

const (
	byBoth aim = iota // the divisor: its lead divides the greatest common divisor of a's lead and b's
	byOne             // the divisor: its lead divides a's
	leftOf            // what is left of a when the divisor is taken out: its lead divides a's
)

// plan is how a common divisor of a and b is looked for: modulo primes, as a polynomial in x that goes through what
// shows where the other variables are numbers (Zippel). What is sought is without what of it x does not stand in, but
// with a lead, by x, that is known.
type plan struct {
	a, b     sum
	by       aim
	x        int
	degree   int // the divisor's, in x
	lead     sum
	others   []int // the other variables
	bounds   []int // of the degrees in them of what is sought
	top      int   // what is sought has this degree in x
	inA, inB int   // a's and b's degrees in x
}

// support is, for each power of x that is below the top, the products of other variables that stand with it.
type support [][]mono

// plans tells one for each thing that may be sought, by the variable that lets the least degrees be gone through, and
// the one first that has the least of all; shared are the divisor's degrees. Which of them leads to short sums is not
// known beforehand.
func plans(a, b sum, shared degrees) []*plan {
	var list []*plan
	for _, p := range []plan{{a: a, b: b, by: byBoth}, {a: a, b: b, by: byOne}, {a: b, b: a, by: byOne}, {a: a, b: b, by: leftOf}, {a: b, b: a, by: leftOf}} {
		p.chooseVariable(shared)
		list = append(list, &p)
	}
	slices.SortStableFunc(list, func(p, q *plan) int { return cmp.Compare(p.cost(shared), q.cost(shared)) })
	return list
}

func (p *plan) chooseVariable(shared degrees) {
	best, least := 0, -1
	for v, d := range shared {
		if d == 0 {
			continue
		}
		p.x = v
		if n := p.cost(shared); least < 0 || n < least {
			best, least = v, n
		}
	}
	p.x = best
}

// cost tells the sum of the degrees to go through, at the most.
func (p *plan) cost(shared degrees) int {
	n := 0
	whole, lead, other := p.a.degrees(), p.a.top(p.x).degrees(), p.b.top(p.x).degrees()
	for v := range shared {
		switch {
		case v == p.x:
		case p.by == byBoth:
			n += shared[v] + min(lead[v], other[v])
		case p.by == byOne:
			n += shared[v] + lead[v]
		default:
			n += whole[v] - shared[v] + lead[v]
		}
	}
	return n
}

// prepare finds the lead: one that the sought polynomial's own lead divides.
func (h hunt) prepare(p *plan, shared degrees) {
	sought, high := shared, p.a.degrees()
	p.lead = p.a.top(p.x)
	switch p.by {
	case byBoth:
		p.lead = h.written(h.common([]sum{p.lead, p.b.top(p.x)}))
	case leftOf:
		for v := range sought {
			sought[v] = high[v] - shared[v]
		}
	}
	p.degree, p.top, p.inA, p.inB = shared[p.x], sought[p.x], high[p.x], p.b.degrees()[p.x]
	lead := p.lead.degrees()
	for v := range sought {
		if sought[v] += lead[v]; v != p.x && sought[v] > 0 {
			p.others = append(p.others, v)
		}
	}
	sought.fit()
	slices.SortStableFunc(p.others, func(v, w int) int { return cmp.Compare(sought[w], sought[v]) })
	for _, v := range p.others {
		p.bounds = append(p.bounds, sought[v])
	}
}

// sought tells what is sought, its numbers by as many primes as change them.
func (h hunt) sought(p *plan, l *luck) sum {
	s := l.next()
	where := h.support(p, s)
	known := residue.Nothing(where.count())
	all := set(p.others...)
	for range p.primes() {
		c := p.courses(s, all, all)
		numbers := p.coefficients(s, where, c)
		p.check(s, where, numbers, c)
		if !known.Take(s.Field, numbers) {
			return p.joined(where, known.Numbers)
		}
		s = l.next()
	}
	panic(unlucky{})
}

// primes tells how many are enough for the numbers of a factor of a times the lead (Gelfond), and one more.
func (p *plan) primes() int {
	most := height(p.a) + height(p.lead) + bits.Len(uint(len(p.lead)))
	high, lead := p.a.degrees(), p.lead.degrees()
	for v := range high {
		most += (high[v]+lead[v])*3/2 + 1
	}
	return most/60 + 2
}

// check holds the numbers against the next point: where a number is 0 modulo the prime that told the support, it is
// missing there, and no number is right.
func (p *plan) check(s *spot, where support, numbers []uint64, c *courses) {
	n := where.longest() + 1
	for e, seen := range p.sight(s, c) {
		for i, m := range where[e] {
			seen = s.Minus(seen, s.Times(numbers[i], s.Power(s.worth(m), uint64(n))))
		}
		if seen != 0 {
			panic(unlucky{})
		}
		numbers = numbers[len(where[e]):]
	}
}

// longest tells how many products stand with one power of x at the most.
func (w support) longest() int {
	n := 0
	for _, l := range w {
		n = max(n, len(l))
	}
	return n
}

func (w support) count() int {
	n := 0
	for _, l := range w {
		n += len(l)
	}
	return n
}

// joined lays numbers where they stand, and the lead ahead of them.
func (p *plan) joined(where support, numbers []api.Int) sum {
	var out sum
	for _, t := range p.lead {
		out = append(out, term{at: t.at.times(power(p.x, p.top)), coef: t.coef})
	}
	for e, l := range where {
		for _, m := range l {
			out = append(out, term{at: m.times(power(p.x, e)), coef: numbers[0]})
			numbers = numbers[1:]
		}
	}
	return gathered(out)
}

// support tells what stands where, by one variable more each time: the others stay at the spot.
func (h hunt) support(p *plan, s *spot) support {
	where := make(support, p.top)
	for e := range where {
		where[e] = []mono{{}}
	}
	for k := range p.others {
		where = p.widened(s, where, k)
		if where.count() > h.limit {
			panic(endless{})
		}
	}
	return where
}

// widened takes the k-th of the others through the powers of its number: what stands with each power of x and of those
// ahead of it is then a polynomial in it alone.
func (p *plan) widened(s *spot, where support, k int) support {
	v := p.others[k]
	nodes := make([]uint64, p.bounds[k]+1)
	for e := range nodes {
		nodes[e] = s.Power(s.at[v], uint64(e))
	}
	found := s.exponents(nodes, p.laws(s, where, k))
	out := make(support, len(where))
	for e, l := range where {
		for i, m := range l {
			for _, exp := range found[i] {
				out[e] = append(out[e], m.times(power(v, exp)))
			}
		}
		found = found[len(l):]
	}
	return out
}

// laws goes on till all have settled, but no further than there may be exponents: then the numbers alone tell all.
func (p *plan) laws(s *spot, where support, k int) []residue.Law {
	sofar := set(p.others[:k]...)
	outer := p.courses(s, sofar.times(set(p.others[k])), set(p.others[k]))
	inner := p.courses(s, sofar, sofar)
	out := make([]residue.Law, where.count())
	for n, settled := 0, false; n <= p.bounds[k] && !settled; n++ {
		outer.advance(s.field)
		inner.startAt(outer)
		settled = true
		for i, c := range p.coefficients(s, where, inner) {
			out[i].Take(s.Field, c)
			settled = settled && out[i].Settled()
		}
	}
	return out
}

// coefficients tells the numbers of what is sought, where they stand, by as many steps of the courses as the longest
// list has products.
func (p *plan) coefficients(s *spot, where support, c *courses) []uint64 {
	sums := make([][]uint64, len(where)) // of each power of x, step by step
	for range where.longest() {
		for e, n := range p.sight(s, c) {
			sums[e] = append(sums[e], n)
		}
	}
	var out []uint64
	for e, l := range where {
		nodes := make([]uint64, len(l))
		for i, m := range l {
			nodes[i] = s.worth(m)
		}
		out = append(out, s.solved(nodes, sums[e:e+1])[0]...)
	}
	return out
}

// sight tells what of the sought polynomial shows at the next point, without its lead.
func (p *plan) sight(s *spot, c *courses) []uint64 {
	c.advance(s.field)
	a, b := c.a.image(s.field, p.inA), c.b.image(s.field, p.inB)
	if len(a) <= p.inA || len(b) <= p.inB {
		panic(unlucky{})
	}
	g := s.lastRest(slices.Clone(a), b)
	if len(g) != p.degree+1 {
		panic(unlucky{})
	}
	inverse := s.Inverse(g[p.degree])
	if p.by == leftOf {
		left, _ := s.Divide(a, s.Scaled(g, inverse))
		return left[:p.top]
	}
	lead := c.lead.image(s.field, 0)
	return s.Scaled(g, s.Times(inverse, lead[0]))[:p.top]
}

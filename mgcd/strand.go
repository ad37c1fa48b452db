package mgcd

import (
	"cmp"
	"math"
	"slices"

	"terrace/api"
	"terrace/big"
)

// A strand is a factor whose exponents lie on one line, like x^6 y^4 - x^3 y^2 z^5 + z^10: a polynomial in one product
// of powers, x^3 y^2 z^-5. That it divides a is asked line by line of a, which is a division in one variable each time.

// ways is how many ways out are gone to find where strands may lie: few other directions are left then.
const ways = 32

// vector is a direction from one product of powers to another, or a place.
type vector [api.MaxVars]int

// place tells m's exponents.
func (m mono) place() vector {
	var out vector
	for v := range out {
		out[v] = m.exp(v)
	}
	return out
}

// moved tells the place that is n times u away.
func (p vector) moved(n int, u vector) vector {
	for v := range p {
		p[v] += n * u[v]
	}
	return p
}

// mono tells the product of powers at p, which has no exponent below 0.
func (p vector) mono() mono {
	var out mono
	for v, e := range p {
		out = out.times(power(v, e))
	}
	return out
}

// pivot tells the last variable that u moves.
func (u vector) pivot() int {
	v := len(u) - 1
	for v > 0 && u[v] == 0 {
		v--
	}
	return v
}

// direction tells the shortest vector along the line from p to q, which is another place, up the order of terms.
func (p vector) direction(q vector) vector {
	u := q.moved(-1, p)
	size := 0
	for _, n := range u {
		size = euclid(size, max(n, -n))
	}
	if u[u.pivot()] < 0 {
		size = -size
	}
	for v := range u {
		u[v] /= size
	}
	return u
}

// line is what of a sum lies on one line: the sum of its powers of variable 0, variable 0 standing for a step.
type line struct {
	from  vector
	steps sum
}

// lines tells s by lines in the direction u. Since steps go up the order of terms, those of a line descend.
func (s sum) lines(u vector) []line {
	pivot := u.pivot()
	where := make(map[vector]int)
	var list []line
	for _, t := range s {
		p := t.at.place()
		n := p[pivot] / u[pivot]
		p = p.moved(-n, u)
		i, seen := where[p]
		if !seen {
			i = len(list)
			where[p] = i
			list = append(list, line{from: p})
		}
		list[i].steps = append(list[i].steps, term{at: power(0, n), coef: t.coef})
	}
	return list
}

// distinct tells what stands on the lines, each once, without the greatest term that divides it: of many lines few may
// be unlike.
func distinct(lines []line) []sum {
	list := make([]sum, len(lines))
	for i, l := range lines {
		list[i] = l.steps.over(single(l.steps))
	}
	slices.SortFunc(list, sum.compare)
	return slices.CompactFunc(list, func(s, t sum) bool { return s.compare(t) == 0 })
}

// compare is 0 only of like sums.
func (s sum) compare(t sum) int {
	return slices.CompareFunc(s, t, func(a, b term) int {
		return cmp.Or(a.at.compare(b.at), big.Cmp(a.coef, b.coef))
	})
}

// corners tells terms of s that are the farthest ones some way out, of which there are many: a strand's line through
// such a one has another term of s on it.
func (s sum) corners() []vector {
	var list []vector
	l := lucky(s)
	for range ways {
		var way [api.MaxVars]int
		for v := range way {
			way[v] = int(l.Number()>>32) - 1<<31
		}
		// Of those that are equally far out, the first one in the order of terms is a corner, too.
		list = append(list, slices.MaxFunc(s, func(t, u term) int { return cmp.Compare(t.at.far(way), u.at.far(way)) }).at.place())
	}
	return list
}

// far tells how far out m lies.
func (m mono) far(way [api.MaxVars]int) int {
	n := 0
	for v, w := range way {
		n += w * m.exp(v)
	}
	return n
}

// directions tells in which ones s may have strands: those that lead from each corner to another term.
func (s sum) directions() []vector {
	corners := s.corners()
	seen := make(map[vector]int) // from how many corners on
	var list []vector
	for i, c := range corners {
		for _, t := range s {
			p := t.at.place()
			if p == c {
				continue
			}
			if u := c.direction(p); seen[u] == i {
				seen[u]++
				if seen[u] == len(corners) {
					list = append(list, u)
				}
			}
		}
	}
	return list
}

// strand tells the greatest strand of s in the direction u, as a sum of powers of variable 0; 1, if there is none.
func (s sum) strand(u vector) sum {
	lines := s.lines(u)
	if slices.ContainsFunc(lines, func(l line) bool { return len(l.steps) == 1 }) {
		return constant(big.From(1))
	}
	return common(distinct(lines)).shortened(math.MaxInt).num
}

// without tells s divided by a strand of its own.
func (s sum) without(strand sum, u vector) sum {
	var start vector // of the strand, as far below 0 as it goes
	for v := range start {
		start[v] = min(0, strand[0].at.exp(0)*u[v])
	}
	var out sum
	for _, l := range s.lines(u) {
		q, _ := quotient(l.steps, strand, math.MaxInt)
		for _, t := range q {
			out = append(out, term{at: l.from.moved(t.at.exp(0), u).moved(1, start).mono(), coef: t.coef})
		}
	}
	return gathered(out)
}

// along tells a sum of powers of variable 0 with u for each, lifted till no exponent is below 0.
func (s sum) along(u vector) sum {
	var start vector
	for v := range start {
		start[v] = max(0, -s[0].at.exp(0)*u[v])
	}
	var out sum
	for _, t := range s {
		out = append(out, term{at: start.moved(t.at.exp(0), u).mono(), coef: t.coef})
	}
	return gathered(out)
}

// withoutStrands tells what is left of b, which no term but 1 divides, without its strands, and whether all of them
// divide a. A strand without which b would be longer than a, too, is left in: it is not by it that a is short.
func withoutStrands(b, a sum) (sum, bool) {
	for _, u := range b.directions() {
		strand := b.strand(u)
		if isNumber(strand) {
			continue
		}
		if slices.ContainsFunc(distinct(a.lines(u)), func(s sum) bool { return !divides(strand, s) }) {
			return nil, false
		}
		if left := b.without(strand, u); len(left) <= max(len(a), len(b)) {
			b = left
		}
	}
	return b, true
}

// unstranded tells the greatest common divisor of a and b, which no term but 1 divides, if both have strands in one
// direction without which one of them, b say, is not longer: it is that of a and what is left of b, times that of
// their strands, since those have nothing in common with what is left.
func (h hunt) unstranded(a, b sum) (ratio, bool) {
	for _, u := range a.directions() {
		inA, inB := a.strand(u), b.strand(u)
		if isNumber(inA) || isNumber(inB) {
			continue
		}
		left := b.without(inB, u)
		if len(left) > len(b) {
			a, b, inA, inB = b, a, inB, inA
			left = b.without(inB, u)
		}
		if len(left) > len(b) {
			continue
		}
		strands, rest := shortRatio(inA, inB), h.common([]sum{a, left})
		return ratio{h.product(rest.num, strands.num.along(u)), h.product(rest.den, strands.den.along(u))}, true
	}
	return ratio{}, false
}

// shortRatio tells the greatest common divisor of two sums of powers of variable 0, as short as may be: 1 + x + .. + x^99
// is x^100 - 1 over x - 1.
func shortRatio(a, b sum) ratio {
	g := common([]sum{a, b}).shortened(math.MaxInt)
	best := g
	for _, s := range []sum{a, b} {
		left, _ := quotient(s, g.num, math.MaxInt)
		if len(s)+len(left) < len(best.num)+len(best.den) {
			best = ratio{s, left}
		}
	}
	return best
}

package chain

import (
	"terrace/api"
	"terrace/residue"
)

// patience is how many numbers a law has to foretell, one after the other, to be believed. Nothing hangs on it but time.
const patience = 16

// limits asks whether an answer is proved to be too long: each question once, and not ahead of its turn.
type limits struct {
	*spot
	left []proof
}

// proof may show that an answer is too long.
type proof struct {
	cost  int // about how many products modulo a prime it takes
	shows func() bool
}

// limits tells those that bounds do not keep.
func (q *question) limits(g *grid) *limits {
	l := &limits{spot: q.spot()}
	each := len(l.terms[0]) + len(l.terms[1]) + q.imageCost()
	for k, d := range g.bounds {
		if d > api.MaxDeg {
			l.left = append(l.left, proof{api.MaxDeg * (each + api.MaxDeg), func() bool { return l.isTooHigh(g.vars[k]) }})
		}
	}
	if g.size() > api.MaxTerms {
		l.left = append(l.left, proof{2 * api.MaxTerms * (2*each + api.MaxTerms), l.hasTooMany})
	}
	return l
}

// areExceeded tells whether proofs that cost no more show it.
func (l *limits) areExceeded(cost int) bool {
	for len(l.left) > 0 && l.left[0].cost <= cost {
		next := l.left[0]
		l.left = l.left[1:]
		if next.shows() {
			return true
		}
	}
	return false
}

// isTooHigh tells whether the answer has an exponent of u above MaxDeg: else, u being one more each time, what its
// values differ by, and what that differs by, and so on, is 0 at last.
func (s *spot) isTooHigh(u int) bool {
	fixed := s.each(func(t term) uint64 { return s.Times(s.Of(t.coef), s.worth(t.at.without(s.q.v).without(u))) })
	high := max(degreeOf(s.q.a, u), degreeOf(s.q.b, u))
	var values []uint64
	for n := range api.MaxDeg + 2 {
		powers := s.powersOf(s.Plus(s.at[u], s.small[n]), high)
		worth := s.each(func(t term) uint64 { return powers[t.at.exp(u)] })
		for i := range worth {
			s.multiply(worth[i], fixed[i])
		}
		values = append(values, s.value(worth, s.at[s.q.v]))
	}
	for len(values) > 1 {
		for i := range values[1:] {
			values[i] = s.Minus(values[i+1], values[i])
		}
		values = values[:len(values)-1]
	}
	return values[0] != 0
}

// hasTooMany tells whether the answer has more than MaxTerms terms: else, all variables going up the powers of their
// numbers, a law that is no longer holds for its values.
func (s *spot) hasTooMany() bool {
	worth := s.each(func(t term) uint64 { return s.Of(t.coef) })
	steps := s.each(func(t term) uint64 { return s.worth(t.at.without(s.q.v)) })
	var law residue.Law
	for x := s.One(); len(law.List) < 2*law.Long+patience; x = s.Times(x, s.at[s.q.v]) {
		law.Take(s.Field, s.value(worth, x))
		if law.Long > api.MaxTerms {
			return true
		}
		for i := range worth {
			s.multiply(worth[i], steps[i])
		}
	}
	return false
}

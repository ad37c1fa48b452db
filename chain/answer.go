package chain

import (
	"math"

	"terrace/api"
)

const (
	firstWork = 1 << 16 // of the first try
	growth    = 8       // how much more each further one may do
	perWork   = 32      // products modulo a prime that take as long as one of numbers in sums
	favour    = 2       // how much more may be done to show that an answer is too long: it mostly is, where work is long
)

// answer tells it, unless it is too long. All of that is proved: what is told, by exact divisions or by as many images
// as bounds ask for; that it is too long, by images that a shorter one would not have. Which way is the shortest is not
// known beforehand: so all are tried, with more and more work.
func (q *question) answer(vars int) (api.MPoly, api.Errno) {
	if s, ok := q.eliminated(firstWork); ok {
		return told(vars, s)
	}
	g := q.grid()
	l, factors := q.limits(g), []factor(nil)
	if l.isCommon() {
		left, rest := q.apart()
		if left == nil {
			return told(vars, nil)
		}
		g, factors = left.grid(), rest
	}
	s, ok := g.answer(l)
	if !ok || len(factors) > 0 && l.areExceeded(math.MaxInt) {
		return api.MPoly{}, api.ErrMPolyForm
	}
	return told(vars, (&work{math.MaxInt}).product(s, factors))
}

// answer tells it, and false if limits are exceeded, which may be those of a longer one.
func (g *grid) answer(l *limits) (sum, bool) {
	for limit := growth * firstWork; ; limit = growth * min(limit, math.MaxInt/growth/favour/perWork) {
		if g.cost() <= perWork*limit {
			return g.found(), true
		}
		if l.areExceeded(favour * perWork * limit) {
			return nil, false
		}
		if s, ok := g.q.eliminated(limit); ok {
			return s, true
		}
	}
}

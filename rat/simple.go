package rat

import (
	"terrace/api"
	"terrace/big"
)

// node is a place in the tree of fractions: last is the fraction at it (numerator, denominator), and above the one
// from which the run that led to it began.
type node struct {
	above, last [2]api.Int
}

// down tells the place after a run of n steps, from which the next run turns to the other side.
func (p node) down(n api.Int) node {
	return node{above: p.last, last: [2]api.Int{
		plus(times(n, p.last[0]), p.above[0]),
		plus(times(n, p.last[1]), p.above[1]),
	}}
}

// simplest tells the highest fraction of the tree from a to b, 0 < a <= b: no other one there has as small a
// denominator, and, if it is whole, as small a numerator.
func simplest(a, b api.Rat) api.Rat {
	p := node{above: [2]api.Int{big.From(0), big.From(1)}, last: [2]api.Int{big.From(1), big.From(0)}}
descent:
	for {
		low, left := floor(a)
		high, leftOfB := floor(b)
		switch {
		case len(left.Mag) == 0:
			p = p.down(low)
			break descent
		case big.Cmp(low, high) < 0:
			p = p.down(plus(low, big.From(1)))
			break descent
		}
		// Both have the same whole part: what is left of them, turned over, tells the runs below.
		p = p.down(low)
		a, b = api.Rat{Num: api.Int{Mag: b.Den}, Den: leftOfB.Mag}, api.Rat{Num: api.Int{Mag: a.Den}, Den: left.Mag}
	}
	return api.Rat{Num: p.last[0], Den: p.last[1].Mag}
}

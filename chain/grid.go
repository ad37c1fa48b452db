package chain

import (
	"math"
	"slices"

	"terrace/api"
	"terrace/residue"
)

// room is how many numbers of an answer may be held, those that are 0 too, and how many primes may be gone through.
const room = 1 << 23

// grid is a way to the answer through images (Collins): modulo primes, the other variables being 0, 1, 2 and on, as far
// as their degrees may reach. There are as many of all as bounds ask for, so that nothing is left to luck.
type grid struct {
	q      *question
	vars   []int    // the other variables
	bounds []int    // of the answer's degrees in them
	terms  [2]sum   // a's and b's
	steps  [2]steps // of a's and b's terms
	primes int
}

// steps is how terms fall together when variables become numbers, one after the other.
type steps struct {
	layers []layer
	place  []int // the power of v that is with each of what is left
}

// layer is the step of one variable: each term's exponent, and where it goes.
type layer struct {
	exp, to []int
	left    int
}

func (q *question) grid() *grid {
	g := &grid{q: q, primes: (q.bits()+1)/61 + 1}
	for u := range api.MaxVars {
		if u != q.v && max(degreeOf(q.a, u), degreeOf(q.b, u)) > 0 {
			g.vars, g.bounds = append(g.vars, u), append(g.bounds, q.degree(u))
		}
	}
	for i, p := range q.parts() {
		g.terms[i] = joined(p, q.v)
		g.steps[i] = g.fall(g.terms[i])
	}
	return g
}

// fall tells what becomes of terms.
func (g *grid) fall(terms sum) steps {
	keys := make([]mono, len(terms))
	for i, t := range terms {
		keys[i] = t.at
	}
	var s steps
	for _, u := range g.vars {
		var l layer
		l, keys = without(keys, u)
		s.layers = append(s.layers, l)
	}
	for _, k := range keys {
		s.place = append(s.place, k.exp(g.q.v))
	}
	return s
}

// without tells the step that takes u out, and what is left.
func without(keys []mono, u int) (l layer, left []mono) {
	where := make(map[mono]int)
	for _, k := range keys {
		rest := k.without(u)
		i, seen := where[rest]
		if !seen {
			i = len(left)
			where[rest] = i
			left = append(left, rest)
		}
		l.exp, l.to = append(l.exp, k.exp(u)), append(l.to, i)
	}
	l.left = len(left)
	return l, left
}

// size tells how many numbers the answer may have; above what there is room for, it stops.
func (g *grid) size() int {
	n := g.q.open()
	for _, d := range g.bounds {
		if n *= d + 1; n > room {
			break
		}
	}
	return n
}

// cost tells about how many products modulo primes it takes; the greatest number, if there is no room.
func (g *grid) cost() int {
	n := g.size()
	if max(n, g.primes) > room {
		return math.MaxInt
	}
	each, limbs := g.q.imageCost(), 0
	for i, s := range g.steps {
		each += len(s.place)
		for _, t := range g.terms[i] {
			limbs += len(t.coef.Mag)
		}
	}
	for _, d := range g.bounds {
		each += d * g.q.open()
	}
	perPrime := 4*limbs + n/g.q.open()*each + n*g.primes
	if perPrime > math.MaxInt/g.primes {
		return math.MaxInt
	}
	return g.primes * perPrime
}

// found tells the answer.
func (g *grid) found() sum {
	known := residue.Nothing(g.size())
	var stock residue.Primes
	for range g.primes {
		s := g.sweep(stock.Next())
		known.Take(s.Field, s.numbers())
	}
	return g.laid(known.Numbers)
}

// laid tells the answer whose numbers these are: v's power changes from each to the next, then the last variable's.
func (g *grid) laid(numbers []api.Int) sum {
	var out sum
	for i, c := range numbers {
		if isZero(c) {
			continue
		}
		at := mono{}
		if g.q.kind == every {
			at = power(g.q.v, i%g.q.open())
		}
		i /= g.q.open()
		for k, d := range slices.Backward(g.bounds) {
			at = at.times(power(g.vars[k], i%(d+1)))
			i /= d + 1
		}
		out = append(out, term{at: at, coef: c})
	}
	slices.SortFunc(out, term.ahead)
	return out
}

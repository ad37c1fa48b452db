package mgcd

import (
	"container/heap"

	"terrace/api"
	"terrace/big"
)

// outcome is how a division ends.
type outcome int

const (
	even outcome = iota // there is a quotient
	none                // there is none
	long                // there is one, with more terms than were asked for
)

// doubtful is how many terms a quotient has when it is asked whether there is one at all: one that there is not may go
// on for very long.
const doubtful = 256

// front is the next product of a term of the quotient with one of the divisor that is to be taken out.
type front struct {
	at      mono
	quo, by int
}

// fronts is a heap, the greatest one first.
type fronts []front

func (h fronts) Len() int           { return len(h) }
func (h fronts) Less(i, j int) bool { return h[i].at.compare(h[j].at) > 0 }
func (h fronts) Swap(i, j int)      { h[i], h[j] = h[j], h[i] }
func (h *fronts) Push(x any)        { *h = append(*h, x.(front)) }

func (h *fronts) Pop() any {
	last := len(*h) - 1
	x := (*h)[last]
	*h = (*h)[:last]
	return x
}

// division goes down over what is left of a sum, without ever writing it out (Johnson): there are as many fronts as
// terms of the quotient.
type division struct {
	by   sum
	room mono // above which no exponent of the quotient is
	most int  // bits of a quotient's number
	quo  sum
	next fronts
}

// quotient tells q with a = q b, if there is one, of at most so many terms; b is not 0.
func quotient(a, b sum, limit int) (sum, outcome) {
	if len(a) == 0 {
		return nil, even
	}
	d := &division{by: b, most: height(a) + 1}
	high, low := a.degrees(), b.degrees()
	for v := range high {
		if high[v] < low[v] {
			return nil, none
		}
		d.room = d.room.times(power(v, high[v]-low[v]))
		// A factor's numbers are below e to the sum of a's degrees, times a's greatest one (Gelfond).
		d.most += high[v] + high[v]/2 + 1
	}
	if _, ok := d.ratio(a[len(a)-1], b[len(b)-1]); !ok {
		return nil, none
	}
	how := d.run(a, limit)
	if how != even {
		return nil, how
	}
	return d.quo, even
}

func (d *division) run(a sum, limit int) outcome {
	for left := a; len(left) > 0 || len(d.next) > 0; {
		var t term
		t, left = d.highest(left)
		if isZero(t.coef) {
			continue
		}
		q, ok := d.ratio(t, d.by[0])
		switch {
		case !ok || len(d.quo) == doubtful && !mayDivide(d.by, a):
			return none
		case len(d.quo) == limit:
			return long
		}
		d.quo = append(d.quo, q)
		if len(d.by) > 1 {
			heap.Push(&d.next, front{at: q.at.times(d.by[1].at), quo: len(d.quo) - 1, by: 1})
		}
	}
	return even
}

// highest tells the first term of what is left, its number being 0 if all that stands there cancels, and the terms of
// left behind it.
func (d *division) highest(left sum) (term, sum) {
	var t term
	if len(left) > 0 {
		t.at = left[0].at
	}
	if len(d.next) > 0 && d.next[0].at.compare(t.at) > 0 {
		t.at = d.next[0].at
	}
	if len(left) > 0 && left[0].at == t.at {
		t.coef, left = left[0].coef, left[1:]
	}
	for len(d.next) > 0 && d.next[0].at == t.at {
		n := d.next[0]
		t.coef = minus(t.coef, times(d.quo[n.quo].coef, d.by[n.by].coef))
		d.advance()
	}
	return t, left
}

// advance moves the first front on.
func (d *division) advance() {
	n := &d.next[0]
	n.by++
	if n.by == len(d.by) {
		heap.Pop(&d.next)
		return
	}
	n.at = d.quo[n.quo].at.times(d.by[n.by].at)
	heap.Fix(&d.next, 0)
}

// ratio tells t over u, and whether that may be a term of the quotient.
func (d *division) ratio(t, u term) (term, bool) {
	if !u.at.divides(t.at) {
		return term{}, false
	}
	at := t.at.over(u.at)
	q, left, _ := big.Divide(t.coef, u.coef)
	return term{at: at, coef: q}, at.divides(d.room) && isZero(left) && big.Len(q) <= d.most
}

// height tells the most bits that a number of s has.
func height(s sum) int {
	most := 0
	for _, t := range s {
		most = max(most, big.Len(t.coef))
	}
	return most
}

// divides tells whether b divides a; a quotient of more than MaxTerms terms is not written out, since mayDivide has
// been asked.
func divides(b, a sum) bool {
	_, how := quotient(a, b, api.MaxTerms)
	return how != none
}

// exactly tells a divided by b. If b does not divide a, luck was bad.
func exactly(a, b sum) sum {
	q, how := quotient(a, b, longest)
	switch how {
	case none:
		panic(unlucky{})
	case long:
		panic(endless{})
	}
	return q
}

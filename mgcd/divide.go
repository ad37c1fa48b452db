package mgcd

import (
	"math"
	"slices"

	"terrace/api"
	"terrace/big"
)

// outcome is how a division ends.
type outcome int

const (
	even outcome = iota // there is a quotient
	none                // there is none
	open                // if there is one, it has more terms than were asked for
)

// doubtful is how many terms a quotient has when spots are asked whether there may be one: one that there is not may go
// on for very long.
const doubtful = 256

// front is the next product of a term of the divisor with one of the quotient that is to be taken out.
type front struct {
	at mono
	by int
}

// fronts is a heap, the greatest one first.
type fronts []front

// add lays f in its place, from the end upwards.
func (h *fronts) add(f front) {
	*h = append(*h, f)
	list, i := *h, len(*h)-1
	for i > 0 && list[(i-1)/2].at.compare(f.at) < 0 {
		list[i] = list[(i-1)/2]
		i = (i - 1) / 2
	}
	list[i] = f
}

// replace lays f in its place, from the first one's downwards, which is left out.
func (h fronts) replace(f front) {
	i := 0
	for {
		next := 2*i + 1
		if next+1 < len(h) && h[next+1].at.compare(h[next].at) > 0 {
			next++
		}
		if next >= len(h) || h[next].at.compare(f.at) <= 0 {
			break
		}
		h[i] = h[next]
		i = next
	}
	h[i] = f
}

// division goes down over what is left of a sum, without ever writing it out (Johnson): there are at most as many
// fronts as terms of the divisor, since it is quotients that may be endless (Monagan, Pearce).
type division struct {
	by     sum
	room   mono // above which no exponent of the quotient is
	most   int  // bits of a quotient's number
	size   int  // how many terms the quotient has
	quo    sum  // the last ones of them: all, if they are kept, or those that are still needed
	keep   bool
	reach  []int // for each of the divisor's terms with how many of the quotient's it has been taken out
	fronts fronts
	idle   []int // those of the divisor's terms that wait for the quotient's next one
}

// quotient tells q with a = q b, if there is one, of at most so many terms; b is not 0.
func quotient(a, b sum, limit int) (sum, outcome) {
	d := &division{by: b, keep: true}
	if how := d.run(a, limit); how != even {
		return nil, how
	}
	return d.quo, even
}

// run ends, whatever the limit is: terms of the quotient descend, and their exponents are bounded.
func (d *division) run(a sum, limit int) outcome {
	if len(a) == 0 {
		return even
	}
	if !d.begin(a) {
		return none
	}
	for left := a; len(left) > 0 || len(d.fronts) > 0; {
		var t term
		t, left = d.highest(left)
		if isZero(t.coef) {
			continue
		}
		q, ok := d.ratio(t, d.by[0])
		switch {
		case !ok || d.size == doubtful && !mayDivide(d.by, a):
			return none
		case d.size == limit:
			return open
		}
		d.add(q)
	}
	return even
}

// begin tells whether degrees and last terms leave room for a quotient.
func (d *division) begin(a sum) bool {
	d.most, d.reach = height(a)+1, make([]int, len(d.by))
	for j := 1; j < len(d.by); j++ {
		d.idle = append(d.idle, j)
	}
	high, low := a.degrees(), d.by.degrees()
	for v := range high {
		if high[v] < low[v] {
			return false
		}
		d.room = d.room.times(power(v, high[v]-low[v]))
		// A factor's numbers are below e to the sum of a's degrees, times a's greatest one (Gelfond).
		d.most += high[v] + high[v]/2 + 1
	}
	_, ok := d.ratio(a[len(a)-1], d.by[len(d.by)-1])
	return ok
}

// highest tells the first term of what is left, its number being 0 if all that stands there cancels, and the terms of
// left behind it.
func (d *division) highest(left sum) (term, sum) {
	var t term
	if len(left) > 0 {
		t.at = left[0].at
	}
	if len(d.fronts) > 0 && d.fronts[0].at.compare(t.at) > 0 {
		t.at = d.fronts[0].at
	}
	if len(left) > 0 && left[0].at == t.at {
		t.coef, left = left[0].coef, left[1:]
	}
	for len(d.fronts) > 0 && d.fronts[0].at == t.at {
		t.coef = minus(t.coef, d.takeOut())
	}
	return t, left
}

// takeOut tells the first front's number, and moves it on.
func (d *division) takeOut() api.Int {
	j := d.fronts[0].by
	first := d.size - len(d.quo)
	c := times(d.quo[d.reach[j]-first].coef, d.by[j].coef)
	d.reach[j]++
	if d.reach[j] < d.size {
		d.fronts.replace(front{at: d.quo[d.reach[j]-first].at.times(d.by[j].at), by: j})
		return c
	}
	d.idle = append(d.idle, j)
	last := len(d.fronts) - 1
	f := d.fronts[last]
	if d.fronts = d.fronts[:last]; last > 0 {
		d.fronts.replace(f)
	}
	return c
}

// add takes one more term of the quotient.
func (d *division) add(q term) {
	if !d.keep {
		d.forget()
	}
	d.size++
	d.quo = append(d.quo, q)
	for _, j := range d.idle {
		d.fronts.add(front{at: q.at.times(d.by[j].at), by: j})
	}
	d.idle = d.idle[:0]
}

// forget lets go, as soon as there is no room left, of the terms with which the divisor's last one has been taken out:
// then all others have been, too.
func (d *division) forget() {
	if len(d.quo) < cap(d.quo) {
		return
	}
	needed := d.size - d.reach[len(d.by)-1]
	d.quo = slices.Grow(slices.Clone(d.quo[len(d.quo)-needed:]), needed+doubtful)
}

// ratio tells t over u, and whether that may be a term of the quotient.
func (d *division) ratio(t, u term) (term, bool) {
	if !u.at.divides(t.at) {
		return term{}, false
	}
	at := t.at.over(u.at)
	q, ok := over(t.coef, u.coef)
	return term{at: at, coef: q}, ok && at.divides(d.room) && big.Len(q) <= d.most
}

// height tells the most bits that a number of s has.
func height(s sum) int {
	most := 0
	for _, t := range s {
		most = max(most, big.Len(t.coef))
	}
	return most
}

// divides tells whether b, which is not 0, divides a.
func divides(b, a sum) bool {
	_, how := quotient(a, b, doubtful)
	return how == even || how == open && endsEven(a, b)
}

// endsEven tells whether b divides a, where the quotient is long. Spots may have told that it does not; that it does,
// only a division tells that comes to its end: of what is left of b without its strands, since it is they that make
// quotients of short sums endless. In one variable no quotient is.
func endsEven(a, b sum) bool {
	if inOneVariable(a) {
		return runsEven(a, b)
	}
	term := single(b)
	if _, how := quotient(sum{single(a)}, sum{term}, 1); how != even {
		return false
	}
	left, ok := withoutStrands(b.over(term), a)
	if !ok {
		return false
	}
	if p, q, ok := parted(left); ok {
		return divides(p, a) && divides(q, a)
	}
	return runsEven(a, left)
}

// runsEven tells whether b divides a, however long that takes.
func runsEven(a, b sum) bool {
	d := &division{by: b}
	return d.run(a, math.MaxInt) == even
}

func inOneVariable(s sum) bool {
	n := 0
	for _, d := range s.degrees() {
		n += min(d, 1)
	}
	return n <= 1
}

// parted tells two factors of s, which have nothing in common, since a variable stands in all factors of the second
// one and not in the first: their quotients are shorter than the one by s.
func parted(s sum) (p, q sum, ok bool) {
	for v, d := range s.degrees() {
		if d == 0 {
			continue
		}
		c := common(s.parts(set(v))).shortened(len(s))
		if !isUnit(c.den) || isNumber(c.num) {
			continue
		}
		if rest, how := quotient(s, c.num, len(s)); how == even {
			return c.num, rest, true
		}
	}
	return nil, nil, false
}

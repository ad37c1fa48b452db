package chain

import (
	"slices"

	"terrace/api"
)

// tired is thrown where more work would be done than was allowed.
type tired struct{}

// work is how much may still be done: about as many products of numbers of a single limb.
type work struct{ left int }

func (w *work) spend(n int) {
	w.left -= n
	if w.left < 0 {
		panic(tired{})
	}
}

// pair is a product that is to be added, or taken away.
type pair struct {
	a, b  sum
	minus bool
}

// isThere tells whether p is not 0.
func (p pair) isThere() bool {
	return len(p.a) > 0 && len(p.b) > 0
}

// stream is a term times the terms of a list, one after the other.
type stream struct {
	by    term
	list  sum // nothing: the quotient, as far as it is known
	at    int
	minus bool
	opens bool // the next stream begins as soon as this one has told its first product, which is higher
	next  int  // the stream that waits at the same place of the heap, and those behind it; -1, if there is none
}

// front is what streams stand at that wait for their next product.
type front struct {
	at    mono
	first int // of the streams
}

// mill reckons a sum of products and divides it, term by term from the highest on, without ever writing out what is not
// divided yet (Johnson; Monagan, Pearce).
type mill struct {
	*work
	streams []stream
	fronts  []front // a heap, the highest one first
	by      sum
	out     sum
	idle    []int // streams that wait for the quotient's next term
	account account
}

// ratio tells the sum of all products, divided by a sum that divides it and is not 0.
func (w *work) ratio(by sum, pairs ...pair) sum {
	w.spend(1)
	if !slices.ContainsFunc(pairs, pair.isThere) {
		return nil
	}
	m := &mill{work: w, by: by}
	for _, p := range pairs {
		m.open(p)
	}
	for _, t := range by[1:] {
		m.idle = append(m.idle, len(m.streams))
		m.streams = append(m.streams, stream{by: t, minus: true})
	}
	for len(m.fronts) > 0 {
		at := m.fronts[0].at
		for len(m.fronts) > 0 && m.fronts[0].at == at {
			m.take(m.drop())
		}
		if c := m.account.total(); !isZero(c) {
			m.spend(price(c, by[0].coef))
			m.tell(term{at: at.over(by[0].at), coef: over(c, by[0].coef)})
		}
	}
	return m.out
}

// open makes streams of a product: one for each term of the shorter factor.
func (m *mill) open(p pair) {
	if !p.isThere() {
		return
	}
	short, long := p.a, p.b
	if len(short) > len(long) {
		short, long = long, short
	}
	first := len(m.streams)
	for i, t := range short {
		m.streams = append(m.streams, stream{by: t, list: long, minus: p.minus, opens: i < len(short)-1})
	}
	m.lay(first, long)
}

// take adds the next products of streams to the account, and moves them on.
func (m *mill) take(i int) {
	for i >= 0 {
		s := &m.streams[i]
		list, next := s.list, s.next
		if list == nil {
			list = m.out
		}
		m.spend(price(s.by.coef, list[s.at].coef))
		m.account.add(s.by.coef, list[s.at].coef, s.minus)
		s.at++
		if s.at == 1 && s.opens {
			m.lay(i+1, list)
		}
		switch {
		case s.at < len(list):
			m.lay(i, list)
		case s.list == nil:
			m.idle = append(m.idle, i)
		}
		i = next
	}
}

// tell adds a term to the quotient, and sets the streams going that wait for it.
func (m *mill) tell(q term) {
	m.out = append(m.out, q)
	for _, i := range m.idle {
		m.lay(i, m.out)
	}
	m.idle = m.idle[:0]
}

// lay brings a stream into its place, from the end upwards: to those that wait there, if it meets them on its way.
func (m *mill) lay(i int, list sum) {
	s := &m.streams[i]
	at := s.by.at.times(list[s.at].at)
	heap, k := m.fronts, len(m.fronts)
	up := k
	for up > 0 && at.above(&heap[(up-1)/2].at) {
		up = (up - 1) / 2
	}
	if up > 0 && heap[(up-1)/2].at == at {
		s.next, heap[(up-1)/2].first = heap[(up-1)/2].first, i
		return
	}
	s.next = -1
	m.fronts = append(m.fronts, front{})
	for heap = m.fronts; k > up; k = (k - 1) / 2 {
		heap[k] = heap[(k-1)/2]
	}
	heap[up] = front{at: at, first: i}
}

// drop leaves the first front out, and tells its streams.
func (m *mill) drop() int {
	first, last := m.fronts[0].first, len(m.fronts)-1
	f := m.fronts[last]
	m.fronts = m.fronts[:last]
	if last == 0 {
		return first
	}
	heap, i := m.fronts, 0
	for {
		next := 2*i + 1
		if next+1 < last && heap[next+1].at.above(&heap[next].at) {
			next++
		}
		if next >= last || !heap[next].at.above(&f.at) {
			break
		}
		heap[i] = heap[next]
		i = next
	}
	heap[i] = f
	return first
}

// price is what a product of two numbers costs, or a division by one of them.
func price(a, b api.Int) int {
	return 1 + len(a.Mag)*len(b.Mag)/64
}

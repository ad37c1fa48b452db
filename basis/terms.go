package basis

import (
	"slices"

	"terrace/api"
	"terrace/residue"
)

// exponents are those of a term.
type exponents [api.MaxVars]int

// slot is a coefficient, by v, of a class: at is where its terms stand.
type slot struct {
	class int
	at    []exponents
}

// terms tells where the terms of all that is sought stand, unless a class has too many. Each coefficient's numbers, at
// the powers of a point, are sums of powers of what its products of variables are worth there: these are found by the
// law that the numbers follow (Prony; Ben-Or, Tiwari).
func (w *view) terms() ([]slot, bool) {
	laws, ok := w.laws()
	if !ok {
		return nil, false
	}
	nodes, lists, longest := make([][]uint64, len(laws)), make([][]uint64, len(laws)), 0
	for i, law := range laws {
		nodes[i], lists[i] = w.nodes(law), law.List
		longest = max(longest, law.Long)
	}
	w.setGuides(nodes)
	plain := w.solved(nodes, lists)
	out := w.emptySlots(laws)
	for u, d := range w.high {
		if d > 0 && u != w.v {
			w.findExponents(out, u, plain, w.solved(nodes, w.sums(w.turned(u), longest)))
		}
	}
	return out, true
}

// findExponents tells u's by what becomes of the terms' numbers when u's is turned.
func (w *view) findExponents(where []slot, u int, plain, turned [][]uint64) {
	place := make(map[uint64]int)
	power := w.One()
	for e := range w.high[u] + 1 {
		place[power] = e
		power = w.Times(power, w.turn[u])
	}
	for i := range where {
		for k := range where[i].at {
			e, ok := place[w.Times(turned[i][k], w.Inverse(plain[i][k]))]
			if !ok {
				panic(unlucky{})
			}
			where[i].at[k][u] = e
		}
	}
}

// laws tells that of each coefficient as soon as it holds for all of them; false, if there are more terms than may be:
// a law is never longer than what it is about.
func (w *view) laws() ([]residue.Law, bool) {
	laws := make([]residue.Law, w.slots())
	for c := w.course(w.start()); ; c.seekGuides(laws) {
		settled := true
		for i, n := range c.next() {
			laws[i].Take(w.Field, n)
			settled = settled && laws[i].Settled()
		}
		switch {
		case w.areTooLong(laws):
			return nil, false
		case settled:
			return laws, true
		}
	}
}

// areTooLong tells whether the laws of a class are, together.
func (s *search) areTooLong(laws []residue.Law) bool {
	for _, i := range s.open {
		n := 0
		for range s.shape[i].image {
			n += laws[0].Long
			laws = laws[1:]
		}
		if n > api.MaxTerms {
			return true
		}
	}
	return false
}

// nodes tells what the terms are worth that a law is about.
func (w *view) nodes(law residue.Law) []uint64 {
	backward := make([]uint64, law.Long+1) // the law's polynomial, whose roots are the nodes
	for i, c := range law.Now {
		backward[law.Long-i] = c
	}
	roots, ok := w.Roots(backward)
	if !ok || slices.Contains(roots, 0) {
		panic(unlucky{})
	}
	return roots
}

// solved tells the terms' numbers by what they are together.
func (w *view) solved(nodes, sums [][]uint64) [][]uint64 {
	out := make([][]uint64, len(nodes))
	for i, list := range nodes {
		got, ok := w.Solve(list, [][]uint64{sums[i]})
		if !ok || slices.Contains(got[0], 0) {
			panic(unlucky{})
		}
		out[i] = got[0]
	}
	return out
}

// emptySlots tells one for each law, with v's exponents alone.
func (s *search) emptySlots(laws []residue.Law) []slot {
	var out []slot
	for _, i := range s.open {
		for e := range s.shape[i].image {
			x := slot{class: i, at: make([]exponents, laws[len(out)].Long)}
			for k := range x.at {
				x.at[k][s.v] = e
			}
			out = append(out, x)
		}
	}
	return out
}

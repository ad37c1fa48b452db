package basis

import (
	"slices"

	"terrace/api"
	"terrace/residue"
)

// walk is a polynomial on its way through the powers of a spot: what each of its terms is worth, but for v, by what
// that changes with each step, and with what power of v it stands.
type walk struct {
	residue.Field
	worth, step []uint64
	exp         []int
	degree      int
}

func (s spot) walk(p api.MPoly, v int) *walk {
	n := len(p.Terms)
	w := &walk{s.Field, shaded(s.Field, p).coefs, make([]uint64, n), make([]int, n), degree(p, v)}
	t := powers(s.Field, s.at, highest(p))
	for i, x := range p.Terms {
		w.step[i], w.exp[i] = s.One(), x.Exps[v]
		for u, e := range x.Exps {
			if u != v {
				w.step[i] = s.Times(w.step[i], t[u][e])
			}
		}
	}
	return w
}

// next tells the image at the next power; nothing, if a lower degree shows there.
func (w *walk) next() []uint64 {
	out := make([]uint64, w.degree+1)
	for i, n := range w.step {
		w.worth[i] = w.Times(w.worth[i], n)
		out[w.exp[i]] = w.Plus(out[w.exp[i]], w.worth[i])
	}
	if out[w.degree] == 0 {
		return nil
	}
	return out
}

// measure tells how many terms coefficients have together, by their numbers at the powers of a spot: laws that are no
// longer than what they are about hold for them.
type measure []residue.Law

// take takes the next numbers; false, if there are not as many as before.
func (m *measure) take(f residue.Field, numbers []uint64) bool {
	if *m == nil {
		*m = make(measure, len(numbers))
	}
	if len(numbers) != len(*m) {
		return false
	}
	for i, n := range numbers {
		(*m)[i].Take(f, n)
	}
	return true
}

// length tells how many terms there are at the least, and whether this will stay.
func (m measure) length() (n int, settled bool) {
	settled = true
	for i := range m {
		n += m[i].Long
		settled = settled && m[i].Settled()
	}
	return n, settled
}

// isTooLong tells true only if p over b has more than MaxTerms terms, or b does not divide p. Written out it might have
// so many terms that nobody would wait for them.
func (s spot) isTooLong(p, b api.MPoly, v int) bool {
	if room(p, b) <= api.MaxTerms {
		return false
	}
	num, den := s.walk(p, v), s.walk(b, v)
	var m measure
	for {
		quo := s.quotient(num.next(), den.next())
		if quo == nil || !m.take(s.Field, quo) {
			return false
		}
		if n, settled := m.length(); settled || n > api.MaxTerms {
			return n > api.MaxTerms
		}
	}
}

// quotient tells a over b, which are changed; nothing, if there is none.
func (s spot) quotient(a, b []uint64) []uint64 {
	if a == nil || b == nil {
		return nil
	}
	inverse := s.Inverse(b[len(b)-1])
	quo, rest := s.Divide(a, s.Scaled(b, inverse))
	if len(rest) > 0 {
		return nil
	}
	return s.Scaled(quo, inverse)
}

// hopeless is how many terms are far too many.
const hopeless = 4 * api.MaxTerms

// isHopeless tells whether what p and b have in common, or what is left of one of them, seems to be far too long to be
// told: then it would take long to prove what they have in common. It is a guess, since it is about multiples of all
// that.
func (s spot) isHopeless(p, b api.MPoly, v int) bool {
	one := one(p)
	if max(room(p, one), room(b, one)) <= api.MaxTerms {
		return false
	}
	inP, inB := s.walk(p, v), s.walk(b, v)
	var parts [3]measure
	for all := false; !all; {
		images := s.parts(inP.next(), inB.next())
		all = true
		for i := range parts {
			if images == nil || !parts[i].take(s.Field, images[i]) {
				return false
			}
			n, settled := parts[i].length()
			if n > hopeless {
				return true
			}
			all = all && settled
		}
	}
	return false
}

// parts tells what a and b, which are changed, have in common, and what is left of each, all with the lead of one of
// them.
func (s spot) parts(a, b []uint64) [][]uint64 {
	if a == nil || b == nil {
		return nil
	}
	inA, inB := a[len(a)-1], b[len(b)-1]
	both := s.Common(s.Monic(a), s.Monic(b))
	return [][]uint64{s.Scaled(slices.Clone(both), inB), s.Scaled(s.Without(a, both), inA), s.Scaled(s.Without(b, both), inB)}
}

// room tells how many terms there are, at the most, in p over b, as its degrees tell; no more than just too many.
func room(p, b api.MPoly) int {
	n, low := 1, highest(b)
	for u, d := range highest(p) {
		n = min(n*max(d-low[u]+1, 0), api.MaxTerms+1)
	}
	return n
}

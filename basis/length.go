package basis

import (
	"terrace/api"
	"terrace/residue"
)

// walk is a polynomial on its way through the powers of a spot: what each of its terms is worth, but for v, by what that
// changes with each step, and with what power of v it stands.
type walk struct {
	residue.Field
	worth, step []uint64
	exp         []int
	degree      int
}

func (s spot) walk(p api.MPoly, v int) *walk {
	n := len(p.Terms)
	w := &walk{s.Field, shaded(s.Field, p).coefs, make([]uint64, n), make([]int, n), degree(p, v)}
	t := powers(s.Field, s.at, highest(p))
	for i, x := range p.Terms {
		w.step[i], w.exp[i] = s.One(), x.Exps[v]
		for u, e := range x.Exps {
			if u != v {
				w.step[i] = s.Times(w.step[i], t[u][e])
			}
		}
	}
	return w
}

// next tells the image at the next power; nothing, if a lower degree shows there.
func (w *walk) next() []uint64 {
	out := make([]uint64, w.degree+1)
	for i, n := range w.step {
		w.worth[i] = w.Times(w.worth[i], n)
		out[w.exp[i]] = w.Plus(out[w.exp[i]], w.worth[i])
	}
	if out[w.degree] == 0 {
		return nil
	}
	return out
}

// isTooLong tells true only if p over b has more than MaxTerms terms, or b does not divide p: else laws that are no
// longer, together, hold for the values of its coefficients by v at the powers of the spot. Written out it might have so
// many terms that nobody would wait for them.
func (s spot) isTooLong(p, b api.MPoly, v int) bool {
	if room(p, b) <= api.MaxTerms {
		return false
	}
	num, den := s.walk(p, v), s.walk(b, v)
	laws := make([]residue.Law, num.degree-den.degree+1)
	for settled := false; !settled; {
		quo := s.quotient(num.next(), den.next())
		if quo == nil {
			return false
		}
		settled = true
		long := 0
		for i, n := range quo {
			laws[i].Take(s.Field, n)
			settled = settled && laws[i].Settled()
			long += laws[i].Long
		}
		if long > api.MaxTerms {
			return true
		}
	}
	return false
}

// quotient tells a over b, which are changed; nothing, if there is none.
func (s spot) quotient(a, b []uint64) []uint64 {
	if a == nil || b == nil {
		return nil
	}
	inverse := s.Inverse(b[len(b)-1])
	quo, rest := s.Divide(a, s.Scaled(b, inverse))
	if len(rest) > 0 {
		return nil
	}
	return s.Scaled(quo, inverse)
}

// room tells how many terms there are, at the most, in p over b, as its degrees tell; no more than just too many.
func room(p, b api.MPoly) int {
	n, low := 1, highest(b)
	for u, d := range highest(p) {
		n = min(n*max(d-low[u]+1, 0), api.MaxTerms+1)
	}
	return n
}

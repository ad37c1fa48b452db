package chain

import (
	"terrace/api"
	"terrace/residue"
)

// spot is a point: a number for each variable, modulo a prime. What shows there never proves that an answer is short;
// it may prove that it is too long to be told.
type spot struct {
	field
	q     *question
	at    [api.MaxVars]uint64
	terms [2]sum // a's and b's
}

// spot tells one that hangs on all that is asked.
func (q *question) spot() *spot {
	s := &spot{q: q}
	var l residue.Luck
	for i, p := range q.parts() {
		s.terms[i] = joined(p, q.v)
	}
	l.Stir(uint64(q.j*api.MaxVars + q.v))
	for _, terms := range s.terms {
		stir(&l, terms)
	}
	l.Settle()
	s.field = modulo(l.Field(), most)
	for v := range s.at {
		s.at[v] = s.Of(api.Int{Mag: api.Nat{l.Number() | 1}})
	}
	return s
}

func stir(l *residue.Luck, terms sum) {
	for _, t := range terms {
		for _, word := range t.at {
			l.Stir(word)
		}
		for _, limb := range t.coef.Mag {
			l.Stir(limb)
		}
	}
}

// worth tells m's value.
func (s *spot) worth(m mono) uint64 {
	out := s.One()
	for v, number := range s.at {
		if e := m.exp(v); e > 0 {
			out = s.Times(out, s.Power(number, uint64(e)))
		}
	}
	return out
}

// each tells a number for each of a's and b's terms.
func (s *spot) each(number func(t term) uint64) [2][]uint64 {
	var out [2][]uint64
	for i, terms := range s.terms {
		for _, t := range terms {
			out[i] = append(out[i], number(t))
		}
	}
	return out
}

// images tells those of a and b: what their terms are worth, but for v's powers, is given.
func (s *spot) images(worth [2][]uint64) (a, b []uint64) {
	out := [2][]uint64{make([]uint64, s.q.inA()+1), make([]uint64, s.q.inB()+1)}
	for i, terms := range s.terms {
		for n, t := range terms {
			e := t.at.exp(s.q.v)
			out[i][e] = s.Plus(out[i][e], worth[i][n])
		}
	}
	return out[0], out[1]
}

// value tells the answer's, v being x.
func (s *spot) value(worth [2][]uint64, x uint64) uint64 {
	a, b := s.images(worth)
	list := s.q.image(s.field, a, b)
	out := uint64(0)
	for i := len(list) - 1; i >= 0; i-- {
		out = s.Plus(s.Times(out, x), list[i])
	}
	return out
}

// isCommon tells whether a and b seem to have a common divisor that v stands in.
func (s *spot) isCommon() bool {
	a, b := s.images(s.each(func(t term) uint64 { return s.Times(s.Of(t.coef), s.worth(t.at.without(s.q.v))) }))
	if s.q.kind == disc {
		return s.discriminant(a, b) == 0
	}
	return s.subresultant(a, b, 0)[0] == 0
}

// multiply multiplies each of a by that of b.
func (f field) multiply(a, b []uint64) {
	for i, n := range b {
		a[i] = f.Times(a[i], n)
	}
}

package mgcd

import (
	"terrace/api"
	"terrace/residue"
)

// unlucky is thrown where a prime or a point does not show what is there: other ones are then taken.
type unlucky struct{}

// spot is a point: a number for each variable, modulo a prime.
type spot struct {
	field
	at [api.MaxVars]uint64
}

// luck tells spots, one after the other, scattered so that next to none is a root of a polynomial that is not 0.
type luck struct{ residue.Luck }

// lucky tells the luck of some sums. It hangs on each bit of them.
func lucky(list ...sum) *luck {
	l := &luck{}
	for _, s := range list {
		for _, t := range s {
			l.Stir(t.at.high)
			l.Stir(t.at.low)
			for _, limb := range t.coef.Mag {
				l.Stir(limb)
			}
		}
	}
	l.Settle()
	return l
}

func (l *luck) next() *spot {
	s := &spot{field: field{l.Field()}}
	for v := range s.at {
		s.at[v] = s.Of(api.Int{Mag: api.Nat{l.Number()}})
		if s.at[v] == 0 { // no powers would tell its exponents
			s.at[v] = s.One()
		}
	}
	return s
}

// worth tells m's value.
func (s *spot) worth(m mono) uint64 {
	out := s.One()
	for v, number := range s.at {
		if e := m.exp(v); e > 0 {
			out = s.Times(out, s.Power(number, uint64(e)))
		}
	}
	return out
}

// image tells p as a polynomial in v, all others having their numbers; degree is p's in v.
func (s *spot) image(p sum, v, degree int) []uint64 {
	out := make([]uint64, degree+1)
	for _, t := range p {
		e := t.at.exp(v)
		out[e] = s.Plus(out[e], s.Times(s.Of(t.coef), s.worth(t.at.without(set(v)))))
	}
	return residue.Trimmed(out)
}

// sharedDegrees tells those of the greatest common divisor of a and b as far as this spot shows them: none is too low.
func (s *spot) sharedDegrees(a, b sum) degrees {
	var out degrees
	high, low := a.degrees(), b.degrees()
	for v := range out {
		if high[v] == 0 || low[v] == 0 {
			continue
		}
		p, q := s.image(a, v, high[v]), s.image(b, v, low[v])
		// Only where a lead is not 0 here, the divisor's is not.
		if len(p) <= high[v] || len(q) <= low[v] {
			panic(unlucky{})
		}
		out[v] = s.sharedDegree(p, q)
	}
	return out
}

// mayDivide tells false only if b does not divide a. That it tells true proves nothing.
func mayDivide(b, a sum) bool {
	if _, ok := over(content(a), content(b)); !ok {
		return false
	}
	high, low := a.degrees(), b.degrees()
	l := lucky(b, a)
	for range 2 {
		s := l.next()
		for v := range low {
			if low[v] > 0 && !s.divides(s.image(b, v, low[v]), s.image(a, v, high[v])) {
				return false
			}
		}
	}
	return true
}

// divides tells whether b divides a, which is changed.
func (f field) divides(b, a []uint64) bool {
	if len(b) == 0 {
		return len(a) == 0
	}
	return len(f.PseudoRest(a, b)) == 0
}

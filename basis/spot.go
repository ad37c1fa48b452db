package basis

import (
	"terrace/api"
	"terrace/residue"
)

// numbers are those of the variables at a point; degrees their highest exponents.
type (
	numbers [api.MaxVars]uint64
	degrees [api.MaxVars]int
)

// lucky tells the luck of some polynomials and a variable. It hangs on each bit of them.
func lucky(list []api.MPoly, v int) *residue.Luck {
	l := &residue.Luck{}
	l.Stir(uint64(v))
	for _, p := range list {
		for _, t := range p.Terms {
			stir(l, t)
		}
	}
	l.Settle()
	return l
}

func stir(l *residue.Luck, t api.Term) {
	for _, e := range t.Exps {
		l.Stir(uint64(e))
	}
	sign := uint64(0)
	if t.Coef.Neg {
		sign = 1
	}
	l.Stir(sign)
	for _, limb := range t.Coef.Mag {
		l.Stir(limb)
	}
}

// scattered tells numbers that are not 0.
func scattered(l *residue.Luck, f residue.Field) numbers {
	var out numbers
	for u := range out {
		if out[u] = f.Of(api.Int{Mag: api.Nat{l.Number()>>1 + 1}}); out[u] == 0 {
			out[u] = f.One()
		}
	}
	return out
}

// spot is a point modulo a prime.
type spot struct {
	residue.Field
	at numbers
}

func newSpot(l *residue.Luck) spot {
	f := l.Field()
	return spot{f, scattered(l, f)}
}

// image tells p, which is not 0, as a polynomial in v, its lead 1, where the others have the spot's numbers; nothing,
// if a lower degree shows there than p has.
func (s spot) image(p api.MPoly, v int) []uint64 {
	out := shaded(s.Field, p).image(powers(s.Field, s.at, highest(p)), v)
	if out[len(out)-1] == 0 {
		return nil
	}
	return s.Monic(out)
}

// highest tells the degrees that no polynomial of a list exceeds.
func highest(list ...api.MPoly) degrees {
	var out degrees
	for _, p := range list {
		for _, t := range p.Terms {
			for u, e := range t.Exps {
				out[u] = max(out[u], e)
			}
		}
	}
	return out
}

// table is powers of numbers, as high as degrees ask.
type table [api.MaxVars][]uint64

func powers(f residue.Field, at numbers, high degrees) *table {
	t := &table{}
	for u, d := range high {
		t[u] = make([]uint64, d+1)
		t[u][0] = f.One()
		for e := range d {
			t[u][e+1] = f.Times(t[u][e], at[u])
		}
	}
	return t
}

// shade is a polynomial modulo a prime.
type shade struct {
	residue.Field
	terms []api.Term
	coefs []uint64
	high  degrees
	total int // the highest sum of a term's exponents
}

func shaded(f residue.Field, p api.MPoly) *shade {
	s := &shade{Field: f, terms: p.Terms, coefs: make([]uint64, len(p.Terms)), high: highest(p)}
	for i, t := range p.Terms {
		s.coefs[i] = f.Of(t.Coef)
		total := 0
		for _, e := range t.Exps {
			total += e
		}
		s.total = max(s.total, total)
	}
	return s
}

// image tells the coefficients by v where the others have such powers, as many as the degree asks for: the last ones
// may be 0.
func (s *shade) image(t *table, v int) []uint64 {
	out := make([]uint64, s.high[v]+1)
	for i, x := range s.terms {
		c := s.coefs[i]
		for u, e := range x.Exps {
			if e > 0 && u != v {
				c = s.Times(c, t[u][e])
			}
		}
		e := x.Exps[v]
		out[e] = s.Plus(out[e], c)
	}
	return out
}

package mgcd

import (
	"slices"

	"terrace/api"
	"terrace/big"
)

type term struct {
	at   mono
	coef api.Int
}

// ahead is below 0, if t stands ahead of u.
func (t term) ahead(u term) int {
	return u.at.compare(t.at)
}

// sum is a polynomial, its terms descending; it may have more of them than can be told. Numbers may be shared by sums,
// and with what was handed in: none is ever changed.
type sum []term

// degrees are exponents, one for each variable.
type degrees [api.MaxVars]int

func read(p api.MPoly) sum {
	s := make(sum, len(p.Terms))
	for i, t := range p.Terms {
		s[i].coef = t.Coef
		for v, e := range t.Exps {
			s[i].at = s[i].at.times(power(v, e))
		}
	}
	return s
}

// told makes new memory of s, unless it has too many terms: all exponents in one block, each list closed off from its
// neighbour.
func told(vars int, s sum) (api.MPoly, api.Errno) {
	if len(s) > api.MaxTerms {
		return api.MPoly{}, api.ErrMPolyForm
	}
	p := api.MPoly{Vars: vars}
	if len(s) == 0 {
		return p, api.OK
	}
	block := make([]int, vars*len(s))
	p.Terms = make([]api.Term, len(s))
	for i, t := range s {
		exps := block[i*vars : (i+1)*vars : (i+1)*vars]
		for v := range exps {
			exps[v] = t.at.exp(v)
		}
		p.Terms[i] = api.Term{Exps: exps, Coef: api.Int{Neg: t.coef.Neg, Mag: slices.Clone(t.coef.Mag)}}
	}
	return p, api.OK
}

func constant(c api.Int) sum {
	return sum{{coef: c}}
}

// isUnit tells whether s is 1.
func isUnit(s sum) bool {
	return len(s) == 1 && isNumber(s) && isOne(s[0].coef)
}

// isNumber tells whether no variable stands in s, which is not 0.
func isNumber(s sum) bool {
	return s[0].at == mono{}
}

func (s sum) degrees() degrees {
	var d degrees
	for _, t := range s {
		for v := range d {
			d[v] = max(d[v], t.at.exp(v))
		}
	}
	return d
}

// parts tells the coefficients of s as a polynomial in some variables, those that are not 0. They leave the order among
// their terms, since those of one have these variables alike.
func (s sum) parts(vars mono) []sum {
	place := make(map[mono]int)
	var list []sum
	for _, t := range s {
		key := t.at.only(vars)
		i, seen := place[key]
		if !seen {
			i = len(list)
			place[key] = i
			list = append(list, nil)
		}
		list[i] = append(list[i], term{at: t.at.over(key), coef: t.coef})
	}
	return list
}

// top tells the coefficient of the highest power of v in s.
func (s sum) top(v int) sum {
	most := power(v, s.degrees()[v])
	var out sum
	for _, t := range s {
		if t.at.only(set(v)) == most {
			out = append(out, term{at: t.at.over(most), coef: t.coef})
		}
	}
	return out
}

func product(a, b sum) sum {
	switch {
	case isUnit(a):
		return b
	case isUnit(b):
		return a
	}
	out := make(sum, 0, len(a)*len(b))
	for _, t := range a {
		for _, u := range b {
			out = append(out, term{at: t.at.times(u.at), coef: times(t.coef, u.coef)})
		}
	}
	return gathered(out)
}

// gathered lays terms in order, in their own memory: those that are alike become one, those that are 0 are left out.
func gathered(s sum) sum {
	slices.SortFunc(s, term.ahead)
	out := s[:0]
	for _, t := range s {
		if last := len(out) - 1; last >= 0 && out[last].at == t.at {
			out[last].coef = plus(out[last].coef, t.coef)
			continue
		}
		out = append(out, t)
	}
	return slices.DeleteFunc(out, func(t term) bool { return isZero(t.coef) })
}

// content tells the greatest common divisor of s's numbers.
func content(s sum) api.Int {
	var c api.Int
	for _, t := range s {
		if c, _ = big.Gcd(c, t.coef); isOne(c) {
			break
		}
	}
	return c
}

// single tells the greatest term that divides s, which is not 0, with the sign of its lead.
func single(s sum) term {
	d := term{at: s[0].at, coef: content(s)}
	for _, t := range s[1:] {
		d.at = lesser(d.at, t.at)
	}
	if s[0].coef.Neg {
		d.coef = big.Neg(d.coef)
	}
	return d
}

// lesser tells the greatest common divisor of m and n.
func lesser(m, n mono) mono {
	var out mono
	for v := range api.MaxVars {
		out = out.times(power(v, min(m.exp(v), n.exp(v))))
	}
	return out
}

// over tells s divided by a term that divides it.
func (s sum) over(d term) sum {
	out := make(sum, len(s))
	for i, t := range s {
		q, _ := over(t.coef, d.coef)
		out[i] = term{at: t.at.over(d.at), coef: q}
	}
	return out
}

// positive tells s or its opposite, whose lead is positive.
func positive(s sum) sum {
	if len(s) > 0 && s[0].coef.Neg {
		return s.over(term{coef: big.From(-1)})
	}
	return s
}

func isZero(a api.Int) bool {
	return len(a.Mag) == 0
}

// isSign tells whether a is 1 or -1: most numbers are, and no new ones have to be made of them.
func isSign(a api.Int) bool {
	return len(a.Mag) == 1 && a.Mag[0] == 1
}

func isOne(a api.Int) bool {
	return !a.Neg && isSign(a)
}

func plus(a, b api.Int) api.Int {
	c, _ := big.Add(a, b)
	return c
}

func minus(a, b api.Int) api.Int {
	c, _ := big.Sub(a, b)
	return c
}

func times(a, b api.Int) api.Int {
	switch {
	case isSign(a):
		return api.Int{Neg: a.Neg != b.Neg && !isZero(b), Mag: b.Mag}
	case isSign(b):
		return api.Int{Neg: a.Neg != b.Neg && !isZero(a), Mag: a.Mag}
	}
	c, _ := big.Mul(a, b)
	return c
}

// over tells a divided by b, which is not 0, and whether that is a whole number.
func over(a, b api.Int) (api.Int, bool) {
	if isSign(b) {
		return times(a, b), true
	}
	q, left, _ := big.Divide(a, b)
	return q, isZero(left)
}

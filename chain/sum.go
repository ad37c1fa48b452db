package chain

import (
	"slices"

	"terrace/api"
	"terrace/big"
)

type term struct {
	at   mono
	coef api.Int
}

// ahead is below 0, if t stands ahead of u.
func (t term) ahead(u term) int {
	switch {
	case t.at.above(&u.at):
		return -1
	case u.at.above(&t.at):
		return 1
	}
	return 0
}

// sum is a polynomial, its terms descending; it may have more of them than can be told, and higher exponents. Numbers
// may be shared by sums, and with what was handed in: none is ever changed.
type sum []term

func read(p api.MPoly) sum {
	s := make(sum, len(p.Terms))
	for i, t := range p.Terms {
		s[i].coef = t.Coef
		for v, e := range t.Exps {
			s[i].at = s[i].at.times(power(v, e))
		}
	}
	return s
}

// told makes new memory of s, unless there is too much of it: all exponents in one block, each list closed off from its
// neighbour.
func told(vars int, s sum) (api.MPoly, api.Errno) {
	if len(s) > api.MaxTerms {
		return api.MPoly{}, api.ErrMPolyForm
	}
	p := api.MPoly{Vars: vars}
	if len(s) == 0 {
		return p, api.OK
	}
	block := make([]int, vars*len(s))
	p.Terms = make([]api.Term, len(s))
	for i, t := range s {
		exps := block[i*vars : (i+1)*vars : (i+1)*vars]
		for v := range exps {
			exps[v] = t.at.exp(v)
			if exps[v] > api.MaxDeg {
				return api.MPoly{}, api.ErrMPolyForm
			}
		}
		p.Terms[i] = api.Term{Exps: exps, Coef: api.Int{Neg: t.coef.Neg, Mag: slices.Clone(t.coef.Mag)}}
	}
	return p, api.OK
}

func constant(n int) sum {
	return sum{{coef: big.From(int64(n))}}
}

// isUnit tells whether s is 1.
func isUnit(s sum) bool {
	return len(s) == 1 && s[0].at == mono{} && !s[0].coef.Neg && isSign(s[0].coef)
}

func (s sum) degree(v int) int {
	d := -1
	for _, t := range s {
		d = max(d, t.at.exp(v))
	}
	return d
}

// opposite tells s with the other sign.
func (s sum) opposite() sum {
	out := make(sum, len(s))
	for i, t := range s {
		out[i] = term{at: t.at, coef: big.Neg(t.coef)}
	}
	return out
}

// joined tells the sum of list[i] times v to the i; v stands in none of the list.
func joined(list []sum, v int) sum {
	var out sum
	for i, s := range list {
		for _, t := range s {
			out = append(out, term{at: t.at.times(power(v, i)), coef: t.coef})
		}
	}
	slices.SortFunc(out, term.ahead)
	return out
}

func isZero(a api.Int) bool {
	return len(a.Mag) == 0
}

// isSign tells whether a is 1 or -1.
func isSign(a api.Int) bool {
	return len(a.Mag) == 1 && a.Mag[0] == 1
}

// over tells a divided by b, which divides it.
func over(a, b api.Int) api.Int {
	if isSign(b) {
		return api.Int{Neg: a.Neg != b.Neg, Mag: a.Mag}
	}
	q, _, _ := big.Divide(a, b)
	return q
}

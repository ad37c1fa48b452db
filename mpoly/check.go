package mpoly

import (
	"cmp"

	"terrace/api"
	"terrace/big"
	"terrace/rat"
)

// isCount tells whether there may be n variables.
func isCount(n int) bool {
	return n >= 0 && n <= api.MaxVars
}

func isTerm(t api.Term, vars int) bool {
	if len(t.Exps) != vars || big.Check(t.Coef) != api.OK || big.Sign(t.Coef) == 0 {
		return false
	}
	for _, e := range t.Exps {
		if e < 0 || e > api.MaxDeg {
			return false
		}
	}
	return true
}

// isPoint tells whether a has a rational for each variable.
func isPoint(a []api.Rat, vars int) bool {
	if len(a) != vars {
		return false
	}
	for _, x := range a {
		if rat.Check(x) != api.OK {
			return false
		}
	}
	return true
}

func checkBoth(p, q api.MPoly) api.Errno {
	switch {
	case Check(p) != api.OK || Check(q) != api.OK:
		return api.ErrMPolyForm
	case p.Vars != q.Vars:
		return api.ErrMPolyVars
	}
	return api.OK
}

func checkVar(p api.MPoly, v int) api.Errno {
	switch {
	case Check(p) != api.OK:
		return api.ErrMPolyForm
	case v < 0 || v >= p.Vars:
		return api.ErrMPolyVars
	}
	return api.OK
}

// checkCoefs looks through the whole list for each error in turn, since the first one of the chapter is told, not the
// first one of the list.
func checkCoefs(l []api.MPoly, v int) api.Errno {
	for _, p := range l {
		if Check(p) != api.OK {
			return api.ErrMPolyForm
		}
	}
	if len(l) == 0 {
		return api.ErrMPolyVars
	}
	for _, p := range l {
		if p.Vars != l[0].Vars || v < 0 || v >= p.Vars {
			return api.ErrMPolyVars
		}
	}
	if len(l) > api.MaxDeg+1 {
		return api.ErrMPolyForm
	}
	for _, p := range l {
		if degree(p, v) > 0 {
			return api.ErrMPolyForm
		}
	}
	return api.OK
}

func isZero(p api.MPoly) bool {
	return len(p.Terms) == 0
}

// tooHigh tells whether an exponent of p times q is above MaxDeg: the highest ones of p and q are the product's, since
// their coefficients' product is not 0; neither is 0.
func tooHigh(p, q api.MPoly) bool {
	for v := range p.Vars {
		if degree(p, v)+degree(q, v) > api.MaxDeg {
			return true
		}
	}
	return false
}

// compareExps tells the order of two lists that are equally long.
func compareExps(a, b []int) int {
	for v := len(a) - 1; v >= 0; v-- {
		if a[v] != b[v] {
			return cmp.Compare(a[v], b[v])
		}
	}
	return 0
}

// compare tells the order of two polynomials with as many variables.
func compare(p, q []api.Term) int {
	for i := range min(len(p), len(q)) {
		order := compareExps(p[i].Exps, q[i].Exps)
		if order == 0 {
			order = big.Cmp(p[i].Coef, q[i].Coef)
		}
		if order != 0 {
			return order
		}
	}
	return cmp.Compare(len(p), len(q))
}

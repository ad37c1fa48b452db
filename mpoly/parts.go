package mpoly

import (
	"terrace/api"
	"terrace/big"
)

func degree(p api.MPoly, v int) int {
	d := -1
	for _, t := range p.Terms {
		d = max(d, t.Exps[v])
	}
	return d
}

func level(p api.MPoly) int {
	n := p.Vars
	for n > 0 && degree(p, n-1) <= 0 {
		n--
	}
	return n
}

// coefficients leave p's order among their terms, since those of one have v alike.
func coefficients(p api.MPoly, v int) []api.MPoly {
	lists := make([][]entry, degree(p, v)+1)
	for _, x := range entries(p) {
		e := x.at[v]
		x.at[v] = 0
		x.coef = clone(x.coef)
		lists[e] = append(lists[e], x)
	}
	out := make([]api.MPoly, len(lists))
	for e, list := range lists {
		out[e], _ = laid(p.Vars, list)
	}
	return out
}

// joined has nothing to sum up: no two terms are alike.
func joined(l []api.MPoly, v int) []entry {
	var list []entry
	for i, p := range l {
		for _, x := range entries(p) {
			x.at[v] = uint16(i)
			x.coef = clone(x.coef)
			list = append(list, x)
		}
	}
	return inOrder(list)
}

// derivative leaves p's order among the terms that have v, since all of them lose one.
func derivative(p api.MPoly, v int) []entry {
	var list []entry
	for _, x := range entries(p) {
		if e := x.at[v]; e > 0 {
			x.at[v] = e - 1
			x.coef = times(x.coef, big.From(int64(e)))
			list = append(list, x)
		}
	}
	return list
}

// isAlone tells whether no other variable than v stands in p.
func isAlone(p api.MPoly, v int) bool {
	for u := range p.Vars {
		if u != v && degree(p, u) > 0 {
			return false
		}
	}
	return true
}

// single tells p, in which no other variable than v stands.
func single(p api.MPoly, v int) api.Poly {
	if isZero(p) {
		return nil
	}
	out := make(api.Poly, degree(p, v)+1)
	for _, t := range p.Terms {
		out[t.Exps[v]] = clone(t.Coef)
	}
	return out
}

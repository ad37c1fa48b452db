package chain

import (
	"terrace/api"
	"terrace/mgcd"
	"terrace/mpoly"
)

// factor is a polynomial that stands so often in a product.
type factor struct {
	p api.MPoly
	n int
}

// apart tells what is to be asked when what a and b have in common is taken out, and by what that answer is to be
// multiplied; nothing, if the answer is 0. If the divisor g has Deg k in v, so has each row of M_j of a and b one of
// those of the quotients' M_j-k, times g: where a column less stands for the first ones, these are multiplied by g's
// lead.
func (q *question) apart() (*question, []factor) {
	a, inA := split(q.polys[0], q.v)
	b, inB := split(q.polys[1], q.v)
	g, e := mgcd.Gcd(a, b)
	if e != api.OK {
		return q, nil
	}
	shared, _ := mpoly.Deg(g, q.v)
	if shared > q.j {
		return nil, nil
	}
	restA, e := mgcd.Exact(a, g)
	restB, f := mgcd.Exact(b, g)
	if q.kind == disc || e != api.OK || f != api.OK || len(restA.Terms)+len(restB.Terms) > len(a.Terms)+len(b.Terms) {
		return q, nil
	}
	factors := []factor{{inA, q.rowsOfA()}, {inB, q.rowsOfB()}}
	coefs, _ := mpoly.Coefs(g, q.v)
	if q.kind == every {
		factors = append(factors, factor{coefs[shared], q.rows() - 1}, factor{g, 1})
	} else {
		factors = append(factors, factor{coefs[shared], q.rows()})
	}
	return pose(q.kind, restA, restB, q.v, q.j-shared), factors
}

// split tells what p is without what of it v does not stand in, and that; p and 1, if the one is longer than p, or the
// other too long to be told.
func split(p api.MPoly, v int) (part, rest api.MPoly) {
	part, e := mgcd.Part(p, v)
	if e == api.OK && len(part.Terms) <= len(p.Terms) {
		if rest, e = mgcd.Exact(p, part); e == api.OK {
			return part, rest
		}
	}
	one, _ := told(p.Vars, constant(1))
	return p, one
}

// product tells s times all factors.
func (w *work) product(s sum, factors []factor) sum {
	for _, f := range factors {
		by := read(f.p)
		if isUnit(by) {
			continue
		}
		for range f.n {
			s = w.ratio(constant(1), pair{a: s, b: by})
		}
	}
	return s
}

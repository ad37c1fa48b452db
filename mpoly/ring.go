package mpoly

import (
	"terrace/api"
	"terrace/big"
)

// atOnce is about how many products of terms are gathered ahead of a look at how many of them are left.
const atOnce = 1 << 18

// sum adds what turn makes of q's coefficients to p.
func sum(p, q []entry, turn func(api.Int) api.Int) []entry {
	g := gather(len(p) + len(q))
	for _, x := range p {
		g.add(x.at, clone(x.coef))
	}
	for _, x := range q {
		g.add(x.at, turn(x.coef))
	}
	return inOrder(g.list)
}

// product goes by rows, one for each term of p. Along a row the products descend as q's terms do: so all that are not
// below a threshold stand at the rows' fronts, and, once gathered, no later one meets them any more. Thus about atOnce
// wait at a time, and it ends as soon as there are too many to be told, however many more there would be.
func product(p, q []entry) []entry {
	if len(p) == 1 || len(q) == 1 {
		return row(p, q)
	}
	var out []entry
	fronts := make([]int, len(p))
	low, more := exponents{}, true
	for more && len(out) <= api.MaxTerms {
		low, more = threshold(p, q, fronts)
		g := gather(min(len(p)*len(q), api.MaxTerms))
		for i, x := range p {
			for ; fronts[i] < len(q); fronts[i]++ {
				y := q[fronts[i]]
				at := x.at.plus(y.at)
				if more && at.compare(low) < 0 {
					break
				}
				g.add(at, times(x.coef, y.coef))
			}
		}
		out = append(out, inOrder(g.list)...)
	}
	return out
}

// row needs no gathering: it is in order, and no two products in it are alike. One of p and q has a single term.
func row(p, q []entry) []entry {
	out := make([]entry, 0, len(p)*len(q))
	for _, x := range p {
		for _, y := range q {
			out = append(out, entry{at: x.at.plus(y.at), coef: times(x.coef, y.coef)})
		}
	}
	return out
}

// threshold tells the greatest of the products that lie a row's share of atOnce behind the fronts, and whether there
// is one.
func threshold(p, q []entry, fronts []int) (low exponents, more bool) {
	share := atOnce / len(p)
	for i, x := range p {
		if fronts[i]+share >= len(q) {
			continue
		}
		at := x.at.plus(q[fronts[i]+share].at)
		if !more || at.compare(low) > 0 {
			low, more = at, true
		}
	}
	return low, more
}

// changed tells p with what turn makes of its coefficients.
func changed(p api.MPoly, turn func(api.Int) api.Int) []entry {
	list := entries(p)
	for i := range list {
		list[i].coef = turn(list[i].coef)
	}
	return list
}

// primitive divides with the sign of p's lead.
func primitive(p api.MPoly) []entry {
	divisor := api.Int{}
	for _, t := range p.Terms {
		divisor, _ = big.Gcd(divisor, t.Coef)
	}
	if !isZero(p) && p.Terms[0].Coef.Neg {
		divisor = big.Neg(divisor)
	}
	return changed(p, func(a api.Int) api.Int {
		q, _, _ := big.Divide(a, divisor)
		return q
	})
}

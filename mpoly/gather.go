package mpoly

import (
	"cmp"
	"slices"

	"terrace/api"
	"terrace/big"
)

// exponents are those of a term, 0 for the variables that there are not; a product's, twice MaxDeg at most, fit too.
type exponents [api.MaxVars]uint16

// compare tells the order, the last variable's exponent counting most.
func (a exponents) compare(b exponents) int {
	for v := len(a) - 1; v >= 0; v-- {
		if a[v] != b[v] {
			return cmp.Compare(a[v], b[v])
		}
	}
	return 0
}

func (a exponents) plus(b exponents) exponents {
	for v := range a {
		a[v] += b[v]
	}
	return a
}

// entry is a term on its way into a polynomial.
type entry struct {
	at   exponents
	coef api.Int
}

// ahead is below 0, if a stands ahead of b.
func (a entry) ahead(b entry) int {
	return b.at.compare(a.at)
}

// gathered sums up the coefficients that come with the same exponents.
type gathered struct {
	place map[exponents]int // where in list
	list  []entry
}

func gather(room int) *gathered {
	return &gathered{place: make(map[exponents]int, room), list: make([]entry, 0, room)}
}

func (g *gathered) add(at exponents, c api.Int) {
	i, seen := g.place[at]
	if !seen {
		g.place[at] = len(g.list)
		g.list = append(g.list, entry{at: at, coef: c})
		return
	}
	g.list[i].coef = plus(g.list[i].coef, c)
}

// inOrder tells what of the list is not 0, descending, in the list's own memory.
func inOrder(list []entry) []entry {
	list = slices.DeleteFunc(list, func(x entry) bool { return big.Sign(x.coef) == 0 })
	slices.SortFunc(list, entry.ahead)
	return list
}

// entries tells p's terms; their coefficients stay p's memory.
func entries(p api.MPoly) []entry {
	list := make([]entry, len(p.Terms))
	for i, t := range p.Terms {
		list[i].coef = t.Coef
		for v, e := range t.Exps {
			list[i].at[v] = uint16(e)
		}
	}
	return list
}

// laid makes a polynomial of what is in order, unless there is too much of it. All exponents are laid into one block,
// each list closed off from its neighbour.
func laid(vars int, list []entry) (api.MPoly, api.Errno) {
	if len(list) > api.MaxTerms {
		return api.MPoly{}, api.ErrMPolyForm
	}
	p := api.MPoly{Vars: vars}
	if len(list) == 0 {
		return p, api.OK
	}
	block := make([]int, vars*len(list))
	p.Terms = make([]api.Term, len(list))
	for i, x := range list {
		exps := block[i*vars : (i+1)*vars : (i+1)*vars]
		for v := range exps {
			exps[v] = int(x.at[v])
		}
		p.Terms[i] = api.Term{Exps: exps, Coef: x.coef}
	}
	return p, api.OK
}

func clone(a api.Int) api.Int {
	return api.Int{Neg: a.Neg, Mag: slices.Clone(a.Mag)}
}

func plus(a, b api.Int) api.Int {
	c, _ := big.Add(a, b)
	return c
}

func times(a, b api.Int) api.Int {
	c, _ := big.Mul(a, b)
	return c
}

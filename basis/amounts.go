package basis

import (
	"slices"

	"terrace/api"
	"terrace/big"
	"terrace/mgcd"
	"terrace/residue"
)

// fill finds the numbers of the terms of classes, by as many primes as change them.
func (s *search) fill(where []slot) {
	count := 0
	for _, x := range where {
		count += len(x.at)
	}
	sofar := residue.Nothing(count)
	for range s.primes() {
		w := s.view()
		if !sofar.Take(w.Field, w.amounts(where)) {
			s.write(where, sofar.Numbers)
			return
		}
	}
	panic(unlucky{})
}

// primes tells how many are enough for the numbers of a factor of one of the list times its lead (Gelfond), and some.
func (s *search) primes() int {
	most := 0
	for _, p := range s.list {
		bits := 0
		for _, t := range p.Terms {
			bits = max(bits, big.Len(t.Coef))
		}
		bits *= 2
		for _, d := range highest(p) {
			bits += d*3/2 + 1
		}
		most = max(most, bits)
	}
	return most/60 + 3
}

type term struct {
	at   exponents
	coef api.Int
}

// write makes polynomials of terms' numbers.
func (s *search) write(where []slot, amounts []api.Int) {
	terms := make([][]term, len(s.shape))
	for _, x := range where {
		for _, at := range x.at {
			terms[x.class] = append(terms[x.class], term{at, amounts[0]})
			amounts = amounts[1:]
		}
	}
	for _, i := range s.open {
		part, e := mgcd.Part(written(s.list[0].Vars, terms[i]), s.v)
		if e != api.OK {
			panic(unlucky{})
		}
		s.known[i] = part
	}
}

func written(vars int, terms []term) api.MPoly {
	slices.SortFunc(terms, func(a, b term) int { return compare(b.at, a.at) })
	p := api.MPoly{Vars: vars}
	for _, t := range terms {
		p.Terms = append(p.Terms, api.Term{Exps: t.at[:vars], Coef: t.coef})
	}
	return p
}

// amounts tells the numbers of all terms, times what makes the first one of each class what it has to be.
func (w *view) amounts(where []slot) []uint64 {
	nodes, longest := make([][]uint64, len(where)), 0
	t := powers(w.Field, w.at, w.high)
	for i, x := range where {
		for _, at := range x.at {
			nodes[i] = append(nodes[i], w.worth(t, at))
		}
		longest = max(longest, len(x.at))
	}
	w.setGuides(nodes)
	sums := w.sums(w.start(), longest+1)
	list := w.solved(nodes, sums)
	for i := range where {
		w.check(nodes[i], list[i], sums[i])
	}
	w.scale(where, list)
	return slices.Concat(list...)
}

// worth tells the product of powers with such exponents, v's apart.
func (w *view) worth(t *table, at exponents) uint64 {
	out := w.One()
	for u, e := range at {
		if u != w.v {
			out = w.Times(out, t[u][e])
		}
	}
	return out
}

// check holds numbers against what shows at one point more than they were found by.
func (w *view) check(nodes, list, sums []uint64) {
	last := len(nodes)
	left := sums[last]
	for k, n := range list {
		left = w.Minus(left, w.Times(n, w.Power(nodes[k], uint64(last+1))))
	}
	if left != 0 {
		panic(unlucky{})
	}
}

// scale makes the lead of each class the greatest common divisor of all polynomials' leads that it stands in: the
// class's own divides it.
func (w *view) scale(where []slot, list [][]uint64) {
	for _, i := range w.open {
		var lead exponents
		factor := uint64(0)
		for k, x := range where {
			for n, at := range x.at {
				if x.class == i && (factor == 0 || compare(at, lead) > 0) {
					lead, factor = at, list[k][n]
				}
			}
		}
		factor = w.Times(w.Of(w.leadOf(w.shape[i])), w.Inverse(factor))
		for k, x := range where {
			if x.class == i {
				w.Scaled(list[k], factor)
			}
		}
	}
}

// leadOf tells a multiple of a class's lead.
func (s *search) leadOf(c class) api.Int {
	var out api.Int
	for k, p := range s.list {
		if c.often[k] > 0 {
			out, _ = big.Gcd(out, p.Terms[0].Coef)
		}
	}
	return out
}

// compare tells the order of exponents, the last variable's counting most.
func compare(a, b exponents) int {
	for u := len(a) - 1; u >= 0; u-- {
		if a[u] != b[u] {
			return a[u] - b[u]
		}
	}
	return 0
}

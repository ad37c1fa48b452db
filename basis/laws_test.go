package basis_test

import (
	"math/rand/v2"
	"slices"
	"testing"

	"terrace/api"
	"terrace/basis"
	"terrace/mgcd"
	"terrace/mpoly"
)

// factors lists irreducible polynomials in 3 variables, no two of them alike.
func factors() []api.MPoly {
	return parseAll(3, "x", "y", "z", "x - 1", "y + 2x", "3z - 5", "z - xy", "z^2 - 2", "xz + y", "z^2 + x^2 + y^2", "y^2 - x^3", "z^3 + xyz - 7", "2xz^2 - 3", "y^2z + 5x", "x + y + z + 1", "x^4 + y^4 + 3z")
}

func deg(p api.MPoly, v int) int {
	d, _ := mpoly.Deg(p, v)
	return d
}

// P10.1: of products of known factors, however often they stand in them, the classes are those that stand in all
// equally often.
func TestKnownFactors(t *testing.T) {
	r := rand.New(rand.NewPCG(10, 1))
	all := factors()
	for range 400 {
		some := r.Perm(len(all))[:1+r.IntN(5)]
		l, often := make([]api.MPoly, 1+r.IntN(4)), make([][]int, len(all))
		for i := range l {
			l[i] = number(3, []int64{1, -1, 6, -4}[r.IntN(4)])
			for _, k := range some {
				n := []int{0, 0, 1, 1, 1, 2, 3}[r.IntN(7)]
				p, e := mpoly.Mul(l[i], raised(all[k], n))
				if e != api.OK || len(p.Terms) > 600 {
					p, n = l[i], 0
				}
				l[i], often[k] = p, append(often[k], n)
			}
		}
		v := r.IntN(3)
		held(t, "known factors", l, v, classes(all, often, v))
	}
}

// classes multiplies those that stand in all equally often, and in one at all.
func classes(all []api.MPoly, often [][]int, v int) []api.MPoly {
	var want []api.MPoly
	var known [][]int
	for k, p := range all {
		if len(often[k]) == 0 || slices.Max(often[k]) == 0 || deg(p, v) == 0 {
			continue
		}
		i := slices.IndexFunc(known, func(l []int) bool { return slices.Equal(l, often[k]) })
		if i < 0 {
			known, want = append(known, often[k]), append(want, p)
			continue
		}
		want[i] = mul(want[i], p)
	}
	return want
}

// apart tells whether p and q have no common divisor of a Deg above 0 in v.
func apart(p, q api.MPoly, v int) bool {
	g, e := mgcd.Gcd(p, q)
	return e == api.OK && deg(g, v) <= 0
}

// P10.2: no two have a common divisor, nor one with its derivative; each polynomial is, but for what does not count, a
// product of powers; made again it is the same; nor do the order, signs, powers, doubles and what does not count
// matter.
func TestLaws(t *testing.T) {
	r := rand.New(rand.NewPCG(10, 2))
	for range 300 {
		n := 1 + r.IntN(4)
		v := r.IntN(n)
		l := products(r, n)
		got, e := basis.Make(l, v)
		if e != api.OK {
			t.Fatalf("error %d:%s", e, show(l...))
		}
		for i, p := range got {
			slope, _ := mpoly.Der(p, v)
			if !apart(p, slope, v) || deg(p, v) < 1 || p.Terms[0].Coef.Neg {
				t.Fatalf("of%s\nby %d:%s", show(l...), v, show(p))
			}
			for _, q := range got[:i] {
				if !apart(p, q, v) {
					t.Fatalf("of%s\nby %d:%s", show(l...), v, show(p, q))
				}
			}
		}
		for _, p := range l {
			for _, q := range got {
				for rest, e := mgcd.Exact(p, q); e == api.OK; rest, e = mgcd.Exact(p, q) {
					p = rest
				}
			}
			if deg(p, v) > 0 {
				t.Fatalf("of%s\nby %d is left%s", show(l...), v, show(p))
			}
		}
		held(t, "made again", got, v, got)
		held(t, "changed", changed(r, l, v), v, got)
	}
}

// products makes some of few factors.
func products(r *rand.Rand, n int) []api.MPoly {
	var some, l []api.MPoly
	for len(some) < 4 {
		if p := random(r, n, 1+r.IntN(4), 1+r.IntN(3), 6); len(p.Terms) > 0 {
			some = append(some, p)
		}
	}
	for range 1 + r.IntN(4) {
		p := number(n, 1+r.Int64N(4))
		for range r.IntN(5) {
			if q, e := mpoly.Mul(p, some[r.IntN(len(some))]); e == api.OK && len(q.Terms) < 400 {
				p = q
			}
		}
		l = append(l, p)
	}
	return l
}

// changed tells a list that has the same basis.
func changed(r *rand.Rand, l []api.MPoly, v int) []api.MPoly {
	var out []api.MPoly
	for _, i := range r.Perm(len(l)) {
		p := l[i]
		switch r.IntN(4) {
		case 0:
			p = neg(p)
		case 1:
			p = mul(p, number(p.Vars, 12))
		case 2:
			if u := r.IntN(p.Vars); u != v {
				p = mul(p, add(lone(p.Vars, u, 1), number(p.Vars, 3)))
			}
		case 3:
			if deg(p, v) < 6 && len(p.Terms) < 40 {
				p = mul(p, p)
			}
		}
		out = append(out, p)
		if r.IntN(3) == 0 {
			out = append(out, out[r.IntN(len(out))], number(p.Vars, 5))
		}
	}
	return out
}

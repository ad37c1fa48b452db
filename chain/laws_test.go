package chain_test

import (
	"math/rand/v2"
	"testing"

	"terrace/api"
	"terrace/chain"
	"terrace/mgcd"
	"terrace/mpoly"
)

// many makes a polynomial in n variables of about so many terms, with such exponents; v's go up to high.
func many(r *rand.Rand, n, terms, most int, size int64, v, high int) api.MPoly {
	p := lone(n, v, high)
	for range terms {
		q := number(n, 1+r.Int64N(size))
		for u := range n {
			if u == v {
				q = mul(q, lone(n, u, r.IntN(high+1)))
			} else {
				q = mul(q, lone(n, u, r.IntN(most+1)))
			}
		}
		p = add(p, turned(q, r.IntN(2)))
	}
	if deg(p, v) < high { // what stood first was taken away again
		return add(p, lone(n, v, high))
	}
	return p
}

// holdLaws holds what follows, of a and b whose greatest common divisor is g.
func holdLaws(t *testing.T, a, b, g api.MPoly, v int) {
	t.Helper()
	m, n, shared := deg(a, v), deg(b, v), deg(g, v)
	for _, j := range degrees(a, b, v) {
		psc, e := chain.Psc(a, b, v, j)
		sub, f := chain.Sub(a, b, v, j)
		if e != api.OK || f != api.OK {
			t.Fatalf("%d of%s and%s: %d, %d", j, show(a), show(b), e, f)
		}
		coef := api.MPoly{Vars: a.Vars}
		if l := coefs(sub, v); len(l) > j {
			coef = l[j]
		}
		if !same(psc, coef) || deg(sub, v) > j {
			t.Fatalf("Psc %d of%s and%s is no coefficient of Sub", j, show(a), show(b))
		}
		if isZero := len(psc.Terms) == 0; j < shared && (!isZero || len(sub.Terms) > 0) || j == shared && isZero {
			t.Fatalf("Psc %d of%s and%s, whose divisor is%s:%s", j, show(a), show(b), show(g), show(psc))
		}
		held(t, "Psc turned round", turned(psc, (m-j)*(n-j)))(chain.Psc(b, a, v, j))
		held(t, "Sub turned round", turned(sub, (m-j)*(n-j)))(chain.Sub(b, a, v, j))
	}
	res := must(chain.Res(a, b, v))
	held(t, "Res turned round", turned(res, m*n))(chain.Res(b, a, v))
	if (len(res.Terms) == 0) != (shared > 0) {
		t.Fatalf("Res of%s and%s, whose divisor is%s:%s", show(a), show(b), show(g), show(res))
	}
}

// P9.3, of polynomials with a divisor and without one, the matrices being small or great.
func TestLaws(t *testing.T) {
	r := rand.New(rand.NewPCG(9, 3))
	for _, c := range []struct{ times, vars, terms, most, high int }{
		{150, 1, 4, 0, 4}, {150, 2, 4, 2, 3}, {100, 3, 3, 1, 2}, {20, 8, 3, 1, 2}, {10, 1, 20, 0, 20}, {6, 2, 12, 3, 6}, {3, 3, 8, 1, 5}, {2, 1, 40, 0, 60},
	} {
		for i := range c.times {
			v := r.IntN(c.vars)
			a, b := many(r, c.vars, c.terms, c.most, 9, v, 1+r.IntN(c.high)), many(r, c.vars, c.terms, c.most, 9, v, 1+r.IntN(c.high))
			if i%2 == 0 {
				g := many(r, c.vars, min(c.terms, 3), c.most, 5, v, 1+r.IntN(max(1, c.high/3)))
				a, b = mul(a, g), mul(b, g)
			}
			g, e := mgcd.Gcd(a, b)
			if e != api.OK {
				t.Fatal(e)
			}
			holdLaws(t, a, b, g, v)
		}
	}
}

// P9.3: where exponents of v are multiples of 2, 3 or 4, determinants fall into those of shorter polynomials.
func TestStrides(t *testing.T) {
	r := rand.New(rand.NewPCG(9, 4))
	for i := range 60 {
		stride, vars := 2+i%3, 1+i%2
		stretched := func() api.MPoly {
			l := coefs(many(r, vars, 4, 2, 9, 0, 1+r.IntN(3)), 0)
			p := api.MPoly{Vars: vars}
			for e, c := range l {
				p = add(p, mul(c, lone(vars, 0, stride*e)))
			}
			return mul(p, lone(vars, 0, r.IntN(3)*(i%2)))
		}
		a, b := stretched(), stretched()
		if deg(a, 0)+deg(b, 0) > 16 {
			continue
		}
		for _, j := range degrees(a, b, 0) {
			held(t, "Psc", plainPsc(a, b, 0, j))(chain.Psc(a, b, 0, j))
			held(t, "Sub", plainSub(a, b, 0, j))(chain.Sub(a, b, 0, j))
		}
		if deg(a, 0) < 9 {
			holdDisc(t, a, 0)
		}
	}
}

// put tells p with a number for each variable but v.
func put(p api.MPoly, v int, numbers []int64) api.MPoly {
	for u := range p.Vars {
		if u != v {
			p = must(mpoly.Put(p, u, whole(numbers[u])))
		}
	}
	return p
}

// P9.1, P9.2: with numbers for the other variables, where no lead becomes 0, answers become those of what polynomials
// become; of great matrices, too.
func TestPutIn(t *testing.T) {
	r := rand.New(rand.NewPCG(9, 5))
	for i, c := range []struct{ vars, terms, most, high int }{
		{2, 30, 6, 12}, {2, 60, 9, 9}, {3, 12, 3, 8}, {3, 25, 4, 4}, {4, 8, 2, 4}, {5, 6, 1, 5}, {8, 4, 2, 5}, {8, 6, 1, 4}, {2, 6, 40, 10}, {2, 30, 9, 25},
	} {
		v := i % c.vars
		a, b := many(r, c.vars, c.terms, c.most, 99, v, c.high), many(r, c.vars, c.terms, c.most, 99, v, c.high-1)
		j := r.IntN(c.high - 2)
		psc, sub, disc := must(chain.Psc(a, b, v, j)), must(chain.Sub(a, b, v, j)), must(chain.Disc(a, v))
		for range 5 {
			numbers := make([]int64, c.vars)
			for u := range numbers {
				numbers[u] = 1 + r.Int64N(99)
			}
			x, y := put(a, v, numbers), put(b, v, numbers)
			if deg(x, v) != deg(a, v) || deg(y, v) != deg(b, v) {
				continue
			}
			held(t, "Psc", put(psc, v, numbers))(chain.Psc(x, y, v, j))
			held(t, "Sub", put(sub, v, numbers))(chain.Sub(x, y, v, j))
			held(t, "Disc", put(disc, v, numbers))(chain.Disc(x, v))
		}
	}
}

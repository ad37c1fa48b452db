package mgcd_test

import (
	"math/rand/v2"
	"testing"

	"terrace/api"
	"terrace/big"
	"terrace/mgcd"
	"terrace/mpoly"
	"terrace/residue"
)

// primes tells the first n primes below 2^62, after some that are left out.
func primes(after, n int) []api.Int {
	var stock residue.Primes
	var list []api.Int
	for i := range after + n {
		if p := stock.Next().Prime(); i >= after {
			list = append(list, p)
		}
	}
	return list
}

// multiple tells the product of numbers, as a polynomial in so many variables.
func multiple(vars int, list []api.Int) api.MPoly {
	c := big.From(1)
	for _, p := range list {
		c, _ = big.Mul(c, p)
	}
	return must(mpoly.Const(vars, c))
}

// What does not divide, though it goes on for long, and of which nothing is left modulo primes.
var apart = []struct {
	n    int
	a, b string
}{
	{2, "y^300 + x^500 + 1", "y - x - 2"}, {2, "x^600 - y^600 + xy", "x - y"}, {3, "z^40 - y^41 + x^42", "z + y - 2x + 5"}, {4, "w^60 + x^60 + y^60 - z^60", "w^2 - xy - z"}, {5, "(t^20 - x^20)(w^20 - y^20) + z", "t + x + w - y + 3"}, {8, "x^30 + y^30 + z^30 + w^30 + t^30 + u^30 + v^30 + s^30", "s - x - y - z - w - t - u - v"},
}

// P8.1: Exact tells ErrMPolyForm only where there is a quotient, whatever primes divide all numbers of a.
func TestExactPrimes(t *testing.T) {
	for _, c := range apart {
		for n := range 12 {
			m, b := multiple(c.n, primes(0, n)), parse(c.n, c.b)
			refused(t, c.a+" / "+c.b, api.ErrMPolyRest)(mgcd.Exact(mul(m, parse(c.n, c.a)), b))
			refused(t, c.a+" and more / "+c.b, api.ErrMPolyRest)(mgcd.Exact(add(mul(m, parse(c.n, c.a)), b), b))
			refused(t, "multiple of "+c.b, api.ErrMPolyRest)(mgcd.Exact(mul(m, b, parse(c.n, c.a)), mul(b, b)))
		}
	}
}

// P8.2, P8.4: Gcd tells only what divides both, whatever primes divide what is left.
func TestGcdApart(t *testing.T) {
	for _, c := range apart {
		for n := range 12 {
			m, b := multiple(c.n, primes(0, n)), parse(c.n, c.b)
			holdGcd(t, c.a+" and "+c.b, add(mul(m, parse(c.n, c.a)), b), b, number(c.n, 1))
			g := parse(c.n, "5x + 3")
			holdGcd(t, c.a+" and "+c.b+", with a divisor", mul(g, add(mul(m, parse(c.n, c.a)), b)), mul(b, g), g)
		}
	}
}

// R1, P8.1, P8.2, P8.3: every call ends, whatever prime a number of the divisor is, or however many primes divide it.
func TestEnds(t *testing.T) {
	list := primes(0, 100)
	for i := range 40 {
		list = append(list, big.Neg(list[i]), multiple(1, primes(i/2, i)).Terms[0].Coef)
	}
	for _, c := range list {
		m := must(mpoly.Const(3, c))
		for _, s := range [][3]string{{"7 + x", "x + y + 3", "x + 2y + 4"}, {"x + z + 7 + xyz", "(x + y + z + 1)^4 + 2", "(x + 2y + 3z + 1)^4 + 3"}, {"x^5 - z", "y^2 - xz", "y^2 + xz"}} {
			g, p, q := add(mul(m, parse(3, "y")), parse(3, s[0])), parse(3, s[1]), parse(3, s[2])
			held(t, "Gcd", positive(g))(mgcd.Gcd(mul(g, p), mul(g, q)))
			held(t, "Exact", p)(mgcd.Exact(mul(g, p), g))
			refused(t, "Exact", api.ErrMPolyRest)(mgcd.Exact(add(mul(g, p), m, m), g))
			// In two variables more, g is the content of what is made of p and q.
			wide := add(mul(spread(g, 4), spread(p, 4), lone(4, 3, 2)), mul(spread(g, 4), spread(q, 4)))
			held(t, "Content", positive(spread(g, 4)))(mgcd.Content(wide, 3))
			held(t, "Part", positive(add(mul(spread(p, 4), lone(4, 3, 2)), spread(q, 4))))(mgcd.Part(wide, 3))
		}
	}
}

// spread tells p in n variables, which are more.
func spread(p api.MPoly, n int) api.MPoly {
	q := api.MPoly{Vars: n}
	for _, t := range p.Terms {
		q.Terms = append(q.Terms, api.Term{Exps: append(append([]int{}, t.Exps...), make([]int, n-p.Vars)...), Coef: t.Coef})
	}
	return q
}

// P8.2: however many primes divide the leads, a divisor is found.
func TestGcdManyPrimes(t *testing.T) {
	for _, c := range []struct{ after, n int }{{0, 3}, {0, 50}, {100, 200}, {0, 1500}} {
		m := multiple(3, primes(c.after, c.n))
		for _, s := range [][4]string{{"x + y", "xy", "1", "2"}, {"x^2 - yz + 3", "yz^2", "x", "x + 1"}, {"z", "x^3", "y^3", "y^2 - x"}} {
			g, top := parse(3, s[0]), mul(m, parse(3, s[1]))
			holdGcd(t, s[0], mul(g, add(top, parse(3, s[2]))), mul(g, add(top, parse(3, s[3]))), positive(g))
		}
	}
}

// cyclic makes the products of v^(k m) - 1 and of (v^k - 1)(v^m - 1), of all v from some variable on: k and m have no
// common divisor, so their greatest one has very many terms, but for few variables.
func cyclic(vars, from, k, m int) (a, b api.MPoly) {
	a, b = number(vars, 1), number(vars, 1)
	for v := from; v < vars; v++ {
		a, b = mul(a, less1(vars, v, k*m)), mul(b, less1(vars, v, k), less1(vars, v, m))
	}
	return a, b
}

// P8.2: a divisor that is short is told, however long the leads' divisor is, or what is left.
func TestGcdShort(t *testing.T) {
	for n := 2; n < 6; n++ {
		p, q := cyclic(n, 1, 29, 31)
		g := parse(n, "x^2 - 3")
		for v := 1; v < n; v++ {
			g = add(g, mul(number(n, int64(v)), lone(n, v, 1)))
		}
		x := lone(n, 0, 1)
		holdGcd(t, "leads", mul(g, add(mul(x, p), number(n, 3))), mul(g, add(mul(x, q), number(n, -5))), positive(g))
		holdGcd(t, "last ones", mul(g, add(x, p)), mul(g, add(x, mul(number(n, 2), q))), positive(g))
		if n < 4 {
			whole := add(mul(x, p), q)
			holdGcd(t, "a divisor with a long content", mul(whole, parse(n, "x + 1")), mul(whole, parse(n, "x - y")), positive(whole))
		}
	}
}

// dense2 makes polynomials whose divisor is the product of all powers, below k, of all variables but the last one.
func dense2(vars, k int) (a, b api.MPoly) {
	a, b = number(vars, 1), number(vars, 0)
	for v := range vars - 1 {
		a = mul(a, less1(vars, v, k))
		part := mul(number(vars, int64(v+1)), powers(vars, v, k))
		for w := range vars - 1 {
			if w != v {
				part = mul(part, less1(vars, w, k))
			}
		}
		b = add(b, part)
	}
	return a, b
}

// P8.2, P8.3: a divisor of far more terms than may be is refused, whatever is left of both; what is left of it is told.
func TestGcdFarTooLong(t *testing.T) {
	for n := 3; n < 5; n++ {
		a, b := cyclic(n, 0, 31, 33)
		refused(t, "cyclic", api.ErrMPolyForm)(mgcd.Gcd(a, b))
		refused(t, "cyclic", api.ErrMPolyForm)(mgcd.Gcd(b, a))
	}
	for _, c := range [][2]int{{3, 999}, {4, 300}, {5, 120}, {8, 8}} {
		a, b := dense2(c[0], c[1])
		refused(t, "dense", api.ErrMPolyForm)(mgcd.Gcd(a, b))
		p := add(mul(a, lone(c[0], c[0]-1, 1)), b)
		refused(t, "Content", api.ErrMPolyForm)(mgcd.Content(p, c[0]-1))
		a, b = dense2(c[0], 1)
		held(t, "Part", positive(add(mul(a, lone(c[0], c[0]-1, 1)), b)))(mgcd.Part(p, c[0]-1))
	}
	// The divisor is long by some variables, what is left of each by others.
	a, b := dense2(8, 4)
	a, b = mul(a, less1(8, 7, 1023)), mul(b, less1(8, 7, 1))
	refused(t, "both", api.ErrMPolyForm)(mgcd.Gcd(a, b))
	a, b = dense2(6, 6)
	a, b = mul(spread(a, 8), less1(8, 6, 1023), less1(8, 7, 1)), mul(spread(b, 8), less1(8, 6, 1), less1(8, 7, 1024))
	refused(t, "all", api.ErrMPolyForm)(mgcd.Gcd(a, b))
	// All three are longer than what is searched for.
	a, b = dense2(4, 21)
	a, b = spread(a, 8), spread(b, 8)
	for v := 3; v < 5; v++ {
		a, b = mul(a, less1(8, v, 1023), less1(8, v+2, 1)), mul(b, less1(8, v, 1), less1(8, v+2, 1022))
	}
	refused(t, "all, and far", api.ErrMPolyForm)(mgcd.Gcd(a, b))
}

// lines makes the product of binomials, in x, y and z, whose exponents lie in different directions.
func lines(k int) api.MPoly {
	p := number(3, 1)
	for _, u := range [][]int{{1, 1, 1}, {2, 1, 1}, {1, 2, 1}, {1, 1, 2}} {
		p = mul(p, add(mul(lone(3, 0, u[0]*k), lone(3, 1, u[1]*k), lone(3, 2, u[2]*k)), number(3, -1)))
	}
	return p
}

// P8.1, P8.2: quotients without end, by divisors whose exponents lie on lines, whatever else is in them.
func TestLines(t *testing.T) {
	a, b, p, q := lines(200), lines(1), parse(3, "x + y - z + 1"), parse(3, "x + y - z^2 + 1")
	refused(t, "lines", api.ErrMPolyForm)(mgcd.Exact(a, b))
	refused(t, "lines and more", api.ErrMPolyForm)(mgcd.Exact(mul(a, p), mul(b, p)))
	refused(t, "lines and others", api.ErrMPolyRest)(mgcd.Exact(mul(a, p), mul(b, q)))
	refused(t, "a line too often", api.ErrMPolyRest)(mgcd.Exact(mul(a, p), mul(b, parse(3, "xyz - 1"))))
	refused(t, "numbers", api.ErrMPolyRest)(mgcd.Exact(mul(a, p, number(3, 9)), mul(b, p, number(3, 6))))
	refused(t, "powers", api.ErrMPolyRest)(mgcd.Exact(mul(a, p, lone(3, 1, 3)), mul(b, p, lone(3, 1, 4))))
	refused(t, "numbers and powers", api.ErrMPolyForm)(mgcd.Exact(mul(a, p, number(3, -12), lone(3, 1, 3)), mul(b, p, number(3, 6), lone(3, 1, 3))))
	holdGcd(t, "lines", mul(a, p), mul(b, q), positive(b))
	holdGcd(t, "lines and more", mul(a, p, p), mul(b, q, p), positive(mul(b, p)))
}

// P8.1, P8.2: a divisor that is longer without the lines in it, and a quotient without end for their sake.
func TestLinesWithin(t *testing.T) {
	b, a := parse(5, "w(x^2 - 1)(y^2 - 1)(z^2 - 1) + t(x^3 - 1)(y^3 - 1)(z^3 - 1)"), parse(5, "w(x + 1)(y + 1)(z + 1) + t(x^2 + x + 1)(y^2 + y + 1)(z^2 + z + 1)")
	for v := range 3 {
		a = mul(a, less1(5, v, 1000))
	}
	refused(t, "long", api.ErrMPolyForm)(mgcd.Exact(a, b))
	refused(t, "a line too often", api.ErrMPolyRest)(mgcd.Exact(a, mul(b, less1(5, 0, 1))))
	holdGcd(t, "within", mul(a, parse(5, "w + 1")), mul(b, parse(5, "t + x + 3")), positive(b))
}

// differ makes (x + y)^k - (z + w)^k.
func differ(k int) api.MPoly {
	p, q := number(4, 1), number(4, 1)
	for range k {
		p, q = mul(p, parse(4, "x + y")), mul(q, parse(4, "z + w"))
	}
	return add(p, neg(q))
}

// P8.1, P8.2: long quotients by divisors whose exponents lie on no lines.
func TestDiffer(t *testing.T) {
	b := differ(1)
	q := must(mgcd.Exact(differ(20), b))
	held(t, "told", differ(20))(mpoly.Mul(q, b))
	refused(t, "long", api.ErrMPolyForm)(mgcd.Exact(differ(60), b))
	refused(t, "long, but for a term", api.ErrMPolyRest)(mgcd.Exact(add(differ(60), lone(4, 2, 1)), b))
	holdGcd(t, "what is left is long", differ(60), differ(49), positive(b))
	holdGcd(t, "all is", differ(60), differ(45), positive(differ(15)))
	two := func(k int) api.MPoly { return mul(spread(differ(k), 8), behind(differ(k))) }
	refused(t, "two", api.ErrMPolyForm)(mgcd.Exact(two(24), two(1)))
	refused(t, "two of which one does not divide", api.ErrMPolyRest)(mgcd.Exact(mul(spread(differ(24), 8), behind(differ(23))), two(2)))
	holdGcd(t, "two", two(24), two(23), positive(two(1)))
}

// behind tells p, of 4 variables, in the last ones of 8.
func behind(p api.MPoly) api.MPoly {
	q := api.MPoly{Vars: 8}
	for _, t := range p.Terms {
		q.Terms = append(q.Terms, api.Term{Exps: append(make([]int, 4), t.Exps...), Coef: t.Coef})
	}
	return q
}

// cyclotomic tells the coefficients, the lowest first, of the polynomial whose roots are all of order d.
func cyclotomic(d int) []int {
	p := make([]int, d+1)
	p[0], p[d] = -1, 1
	for e := 1; e < d; e++ {
		if d%e > 0 {
			continue
		}
		by := cyclotomic(e)
		q := make([]int, len(p)-len(by)+1)
		for i := len(q) - 1; i >= 0; i-- {
			q[i] = p[i+len(by)-1]
			for j, c := range by {
				p[i+j] -= q[i] * c
			}
		}
		p = q
	}
	return p
}

// at tells the polynomial in the product of powers u, which may be below 0, without what is needed to lift it above.
func at(p []int, u [3]int) api.MPoly {
	out := number(3, 0)
	for i, c := range p {
		t := number(3, int64(c))
		for v, n := range u {
			t = mul(t, lone(3, v, max(n*i, -n*(len(p)-1-i))))
		}
		out = add(out, t)
	}
	return out
}

// P8.1, P8.2: products of binomials have the divisors that their cyclotomic factors make, whatever directions they have.
func TestGcdCyclotomic(t *testing.T) {
	slopes := [][3]int{{1, 0, 0}, {0, 1, 0}, {0, 0, 1}, {1, 1, 0}, {1, -1, 0}, {2, 0, 3}, {1, 1, 1}, {-1, 2, 1}}
	for seed := range uint64(250) {
		r := rand.New(rand.NewPCG(seed, 85))
		type factor struct{ slope, order int }
		var often [2]map[factor]int
		both := []api.MPoly{parse(3, "x + 2y + 3z + 5"), parse(3, "x + 2y - z^2")}
		for i := range both {
			often[i] = make(map[factor]int)
			for range 1 + r.IntN(4) {
				u, k := r.IntN(len(slopes)), 1+r.IntN(40)
				both[i] = mul(both[i], at(append(append([]int{-1}, make([]int, k-1)...), 1), slopes[u]))
				for d := 1; d <= k; d++ {
					if k%d == 0 {
						often[i][factor{u, d}]++
					}
				}
			}
		}
		g := number(3, 1)
		for u := range slopes {
			for d := 1; d <= 40; d++ {
				for range min(often[0][factor{u, d}], often[1][factor{u, d}]) {
					g = mul(g, at(cyclotomic(d), slopes[u]))
				}
			}
		}
		holdGcd(t, "Gcd of"+show(both[0])+" and"+show(both[1]), both[0], both[1], positive(g))
		for _, p := range both {
			if q, e := mgcd.Exact(p, g); e == api.OK {
				held(t, "whole", p)(mpoly.Mul(q, g))
			} else if e != api.ErrMPolyForm {
				t.Fatalf("%d: %s /%s", e, show(p), show(g))
			}
		}
	}
}

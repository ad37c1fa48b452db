package chain_test

import (
	"math/rand/v2"
	"slices"
	"testing"

	"terrace/api"
	"terrace/big"
	"terrace/chain"
	"terrace/mpoly"
)

// plane makes the sum of the terms x^i y^k from the m-th to below the n-th, 64 of them with each k, in the variables x,
// y, z.
func plane(m, n int) api.MPoly {
	p := api.MPoly{Vars: 3}
	for i := n - 1; i >= m; i-- {
		p.Terms = append(p.Terms, api.Term{Exps: []int{i % 64, i / 64, 0}, Coef: big.From(int64(i%7 + 1))})
	}
	return p
}

// 7: an answer of MaxTerms terms is told, one of more is refused.
func TestMaxTerms(t *testing.T) {
	z := lone(3, 2, 1)
	for _, n := range []int{api.MaxTerms - 1, api.MaxTerms, api.MaxTerms + 1, 2*api.MaxTerms - 10} {
		a, b := add(z, neg(plane(0, n/2))), add(z, plane(n/2, n))
		c, d := add(mul(z, z), mul(z, plane(0, n/2))), add(mul(z, z), plane(0, n-n/2))
		if n > api.MaxTerms {
			refused(t, "Res", api.ErrMPolyForm)(chain.Res(a, b, 2))
			refused(t, "Psc", api.ErrMPolyForm)(chain.Psc(a, b, 2, 0))
			refused(t, "Sub", api.ErrMPolyForm)(chain.Sub(a, b, 2, 0))
			refused(t, "Sub 1", api.ErrMPolyForm)(chain.Sub(c, d, 2, 1))
			continue
		}
		sum := add(plane(0, n/2), plane(n/2, n))
		held(t, "Res", sum)(chain.Res(a, b, 2))
		held(t, "Psc", sum)(chain.Psc(a, b, 2, 0))
		held(t, "Sub", sum)(chain.Sub(a, b, 2, 0))
		held(t, "Sub 1", add(plane(0, n-n/2), neg(mul(z, plane(0, n/2)))))(chain.Sub(c, d, 2, 1))
	}
	held(t, "Disc", parse(3, "(x^31 + y^32 + 1)^2 - 4xy"))(chain.Disc(parse(3, "xz^2 + (x^31 + y^32 + 1)z + y"), 2))
}

// 7: an exponent of MaxDeg is told, a higher one is refused.
func TestMaxDeg(t *testing.T) {
	for _, c := range []struct{ a, b, want string }{
		{"x^512z - 1", "z^2 + 1", "x^1024 + 1"}, {"x^513z - 1", "z^2 + 1", ""}, {"x^512z - 1", "z^2 + x", ""}, {"x^512z - y", "z^2 - 1", "y^2 - x^1024"}, {"xz - 1", "z^1023 + x", "x^1024 + 1"}, {"xz - 1", "z^1024 + x", ""},
		{"z - x^32", "z^32 + y^1024", "x^1024 + y^1024"}, {"z - x^33", "z^32 + y^1024", ""}, {"y^1024z + x", "y^1024z - x", "-2xy^1024"}, {"y^1024z + 1", "z + y", ""}, {"y^1024z + x", "z - x", "-xy^1024 - x"},
	} {
		a, b := parse(3, c.a), parse(3, c.b)
		if c.want == "" {
			refused(t, "Res "+c.a+", "+c.b, api.ErrMPolyForm)(chain.Res(a, b, 2))
			continue
		}
		held(t, "Res "+c.a+", "+c.b, parse(3, c.want))(chain.Res(a, b, 2))
	}
	held(t, "Disc", parse(3, "1 - 4x^1024y"))(chain.Disc(parse(3, "x^1024z^2 + z + y"), 2))
	refused(t, "Disc", api.ErrMPolyForm)(chain.Disc(parse(3, "x^1024z^3 + z + y"), 2))
	refused(t, "Disc", api.ErrMPolyForm)(chain.Disc(parse(3, "z^2 + x^513z + 1"), 2))
	held(t, "Sub", parse(3, "-x^1024z - y"))(chain.Sub(parse(3, "z^2 + x^1024z + 2y"), parse(3, "z^2 + y"), 2, 1))
}

// P9.1, P9.2: what is too long on the way to an answer does not count.
func TestLongWays(t *testing.T) {
	held(t, "Res", parse(3, "x^700y^2"))(chain.Res(parse(3, "x^700z^2 + 1"), parse(3, "x^700z^2 + yz + 1"), 2))
	held(t, "Disc", parse(3, "y^2 - 4x^1024y"))(chain.Disc(parse(3, "x^1024z^2 + yz + y"), 2))
	held(t, "Psc", parse(3, "0"))(chain.Psc(parse(3, "x^1024z^9 - 1"), parse(3, "x^1024z^9 - 2"), 2, 4))
	held(t, "Psc", parse(3, "0"))(chain.Psc(parse(3, "x^1024z^1024 - 1"), parse(3, "x^1024z^1024 - 2"), 2, 1))
	held(t, "Sub", parse(3, "-x^1024"))(chain.Sub(parse(3, "x^1024z^1024 - 1"), parse(3, "x^1024z^1024 - 2"), 2, 1023))
	refused(t, "Res", api.ErrMPolyForm)(chain.Res(parse(3, "x^1024z^1024 - 1"), parse(3, "x^1024z^1024 - 2"), 2))
	r := rand.New(rand.NewPCG(9, 6))
	a, b, c := many(r, 7, 20, 9, 9, 0, 3), many(r, 7, 20, 9, 9, 1, 3), many(r, 7, 20, 9, 9, 2, 3)
	wide := func(p api.MPoly) api.MPoly { // with one variable more
		q := api.MPoly{Vars: 8}
		for _, u := range p.Terms {
			q.Terms = append(q.Terms, api.Term{Exps: append(slices.Clone(u.Exps), 0), Coef: u.Coef})
		}
		return q
	}
	a, b, c = wide(a), wide(b), wide(c)
	s := lone(8, 7, 1)
	// a c s + a and (b c + 1) s + b: a c b has thousands of terms, and so has a (b c + 1).
	held(t, "Res", neg(a))(chain.Res(add(mul(a, c, s), a), add(mul(add(mul(b, c), number(8, 1)), s), b), 7))
}

// general makes the sum of x_i times v to the i, for the variables but the last one, v, and v to the n.
func general(vars, n int) api.MPoly {
	p := lone(vars, vars-1, n)
	for u := range vars - 1 {
		p = add(p, mul(lone(vars, u, 1), lone(vars, vars-1, u)))
	}
	return p
}

// P9.2: discriminants of general polynomials have as many terms as they are known to have.
func TestGeneral(t *testing.T) {
	for n, terms := range []int{2: 2, 3: 5, 4: 16, 5: 59, 6: 246, 7: 1103} {
		if n < 2 {
			continue
		}
		p := general(n+1, n)
		d := must(chain.Disc(p, n))
		if len(d.Terms) != terms {
			t.Errorf("%d: %d terms", n, len(d.Terms))
		}
		numbers := []int64{3, -7, 2, 5, 1, -4, 6, 0}
		held(t, "Disc", put(d, n, numbers))(chain.Disc(put(p, n, numbers), n))
	}
	a, b := parse(8, "s^3 + xs^2 + ys + z"), parse(8, "s^4 + ws^3 + ts^2 + us + v")
	if res := must(chain.Res(a, b, 7)); len(res.Terms) != 76 {
		t.Errorf("%d terms", len(res.Terms))
	}
}

// known tells p x^i + q y^k in 3 variables.
func known(p api.Int, i int, q api.Int, k int) api.MPoly {
	return add(mul(must(mpoly.Const(3, p)), lone(3, 0, i)), mul(must(mpoly.Const(3, q)), lone(3, 1, k)))
}

func bigPower(a int64, n int) api.Int {
	c := big.From(1)
	for range n {
		c, _ = big.Mul(c, big.From(a))
	}
	return c
}

// P9.2: of the highest degrees.
func TestHighDegrees(t *testing.T) {
	one, minus := big.From(1), big.From(-1)
	held(t, "Res", known(minus, 1023, one, 1024))(chain.Res(parse(3, "z^1024 - x"), parse(3, "z^1023 - y"), 2))
	held(t, "Res", raised(parse(3, "y^2 - x"), 500))(chain.Res(parse(3, "z^1000 - x"), parse(3, "z^500 - y"), 2))
	for _, n := range []int{7, 100, 1023, 1024} {
		want := known(bigPower(int64(1-n), n-1), n, bigPower(int64(n), n), n-1)
		held(t, "Disc", turned(want, n*(n-1)/2))(chain.Disc(add(lone(3, 2, n), parse(3, "xz + y")), 2))
	}
	// The roots of the one are those of z^31 - x^31 but x.
	ratio, want := api.MPoly{Vars: 3}, api.MPoly{Vars: 3}
	for i := range 31 {
		ratio = add(ratio, mul(lone(3, 2, i), lone(3, 0, 30-i)))
		want = add(want, mul(lone(3, 0, 33*i), lone(3, 1, 33*(30-i))))
	}
	held(t, "Res", want)(chain.Res(ratio, parse(3, "z^33 - y^33"), 2))
	r := rand.New(rand.NewPCG(9, 7))
	a, b := many(r, 1, 400, 0, 99, 0, 400), many(r, 1, 400, 0, 99, 0, 399)
	root := parse(1, "x - 3")
	held(t, "Res of a product", mul(must(chain.Res(a, b, 0)), must(chain.Res(root, b, 0))))(chain.Res(mul(a, root), b, 0))
	if p := must(chain.Psc(mul(a, root), mul(b, root), 0, 1)); !same(p, must(chain.Res(a, b, 0))) {
		t.Error("Psc of products")
	}
}

// P9.1, P9.2: long numbers, and numbers that are multiples of many primes.
func TestLongNumbers(t *testing.T) {
	c := api.Int{Mag: api.Nat{1<<62 - 57}}
	for _, d := range []uint64{87, 117, 143, 153, 167, 171, 195} {
		c, _ = big.Mul(c, api.Int{Mag: api.Nat{1<<62 - d}})
	}
	r := rand.New(rand.NewPCG(9, 8))
	for range 20 {
		a, b := many(r, 2, 6, 2, 9, 1, 3), many(r, 2, 6, 2, 9, 1, 2)
		p := must(mpoly.Const(2, c))
		held(t, "Res", mul(raised(p, 2), must(chain.Res(a, b, 1))))(chain.Res(mul(a, p), b, 1))
		held(t, "Disc", mul(raised(p, 4), must(chain.Disc(a, 1))))(chain.Disc(mul(a, p), 1))
	}
	far := must(mpoly.Const(2, bigPower(3, 20000)))
	held(t, "Res", add(mul(far, far), number(2, 1)))(chain.Res(add(lone(2, 1, 1), far), parse(2, "y^2 + 1"), 1))
}

// box makes the product of all u^e - 1, for some variables and exponents.
func box(vars int, over []int, exps ...int) api.MPoly {
	p := number(vars, 1)
	for _, u := range over {
		for _, e := range exps {
			p = mul(p, add(lone(vars, u, e), number(vars, -1)))
		}
	}
	return p
}

// P9.3: where there is a common divisor, answers are 0, however long the divisor is, or what is on the way to it.
func TestCommonDivisors(t *testing.T) {
	r := rand.New(rand.NewPCG(9, 9))
	zero := func(vars int) api.MPoly { return api.MPoly{Vars: vars} }
	for _, c := range []struct{ vars, terms, most, high int }{{8, 50, 5, 5}, {8, 12, 100, 60}, {4, 15, 10, 9}, {2, 50, 20, 20}, {1, 60, 0, 300}} {
		v := r.IntN(c.vars)
		g, a, b := many(r, c.vars, c.terms, c.most, 99, v, c.high), many(r, c.vars, c.terms, c.most, 99, v, c.high), many(r, c.vars, c.terms, c.most, 99, v, c.high)
		a, b = mul(g, a), mul(g, b)
		held(t, "Res", zero(c.vars))(chain.Res(a, b, v))
		held(t, "Psc", zero(c.vars))(chain.Psc(a, b, v, c.high-1))
		held(t, "Sub", zero(c.vars))(chain.Sub(a, b, v, c.high/2))
		if c.terms < 15 {
			held(t, "Disc", zero(c.vars))(chain.Disc(mul(g, a), v))
		}
	}
	for n := 1; n < 5; n++ {
		over := []int{0, 1, 2, 3}[:n]
		a, b := box(n, over, 1023), box(n, over, 31, 33)
		held(t, "Res", zero(n))(chain.Res(a, b, n-1))
		held(t, "Res", zero(n))(chain.Res(b, a, 0))
		held(t, "Psc", zero(n))(chain.Psc(a, b, 0, 62))
		held(t, "Disc", zero(n))(chain.Disc(b, 0))
	}
}

// P9.1: what both have in common comes out again: of products with g, and times polynomials without v.
func TestTakenApart(t *testing.T) {
	r := rand.New(rand.NewPCG(9, 10))
	for i := range 12 {
		a, b, g := many(r, 3, 6, 3, 5, 2, 3), many(r, 3, 6, 3, 5, 2, 2), many(r, 3, 3, 1, 5, 2, 1+i%2)
		c, d, k := parse(3, "x + 2"), parse(3, "y^2 - x + 1"), deg(g, 2)
		for _, j := range degrees(a, b, 2) {
			rows := 5 - 2*j
			outer := mul(raised(c, 2-j), raised(d, 3-j), raised(lead(g, 2), rows-1))
			held(t, "Sub", mul(outer, g, must(chain.Sub(a, b, 2, j))))(chain.Sub(mul(a, c, g), mul(b, d, g), 2, j+k))
			held(t, "Psc", mul(outer, lead(g, 2), must(chain.Psc(a, b, 2, j))))(chain.Psc(mul(a, c, g), mul(b, d, g), 2, j+k))
		}
	}
}

// R1, 7: of great polynomials, whose answers are far too long, each call ends and refuses them.
func TestTooLong(t *testing.T) {
	r := rand.New(rand.NewPCG(9, 11))
	for _, c := range []struct{ vars, terms, most, high int }{{8, 4000, 4, 4}, {8, 300, 20, 20}, {3, 500, 12, 12}, {2, 600, 60, 50}, {8, 30, 1000, 40}, {3, 40, 30, 300}} {
		a, b := many(r, c.vars, c.terms, c.most, 999, 0, c.high), many(r, c.vars, c.terms, c.most, 999, 0, c.high-1)
		a, b = add(a, number(c.vars, 5000)), add(b, number(c.vars, 7000)) // else the variable may divide both
		refused(t, "Res", api.ErrMPolyForm)(chain.Res(a, b, 0))
		refused(t, "Disc", api.ErrMPolyForm)(chain.Disc(a, 0))
		refused(t, "Psc", api.ErrMPolyForm)(chain.Psc(a, b, 0, c.high/3))
		refused(t, "Sub", api.ErrMPolyForm)(chain.Sub(a, b, 0, c.high/3))
		if c.terms < 60 {
			g := many(r, c.vars, 5, 3, 9, 0, 3)
			refused(t, "Psc of products", api.ErrMPolyForm)(chain.Psc(mul(a, g), mul(b, g), 0, 3))
		}
	}
	high := add(lone(8, 7, 1024), number(8, 1))
	refused(t, "a power", api.ErrMPolyForm)(chain.Res(parse(8, "x + y + z + w + t + u + v"), high, 7))
	refused(t, "a power", api.ErrMPolyForm)(chain.Res(parse(8, "x + y + 1"), high, 7))
	refused(t, "a power", api.ErrMPolyForm)(chain.Res(parse(8, "x^2 + 1"), high, 7))
}

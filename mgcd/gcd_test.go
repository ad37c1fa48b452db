package mgcd_test

import (
	"math/rand/v2"
	"strings"
	"testing"

	"terrace/api"
	"terrace/big"
	"terrace/mgcd"
	"terrace/mpoly"
)

// holdGcd asks for the divisor both ways round, and with signs changed.
func holdGcd(t *testing.T, what string, a, b, g api.MPoly) {
	t.Helper()
	held(t, what, g)(mgcd.Gcd(a, b))
	held(t, what+", turned round", g)(mgcd.Gcd(b, a))
	held(t, what+", opposite", g)(mgcd.Gcd(neg(a), b))
}

// P8.2: divisors, the edges among them: numbers, 0, a positive lead, powers of variables, variables that are idle.
func TestGcd(t *testing.T) {
	for _, c := range []struct {
		n       int
		a, b, g string
	}{
		{0, "12", "-18", "6"}, {0, "0", "0", "0"}, {0, "0", "-5", "5"}, {3, "0", "0", "0"}, {2, "0", "x - 2y", "2y - x"}, {1, "4x", "6", "2"}, {1, "7x + 3", "1", "1"}, {2, "x", "y", "1"}, {2, "6x^2y^3", "4xy^5", "2xy^3"},
		{2, "x^2 - y^2", "x^2 - 2xy + y^2", "y - x"}, {2, "x^2 + y", "x^2 + y", "y + x^2"}, {2, "3x - 3y", "5x - 5y", "y - x"}, {2, "(2x + 2)(y + 1)", "(4x + 4)(y - 1)", "2x + 2"},
		{1, "x^12 - 1", "x^18 - 1", "x^6 - 1"}, {1, "x^5 - 1", "x^4 + x^3 + x^2 + x + 1", "x^4 + x^3 + x^2 + x + 1"}, {2, "(x^5 - y)(x + y)", "(x^4 + x^3 + x^2 + x + 1)(x + y)", "x + y"}, {1, "(x + 1)^3(x - 2)", "(x + 1)(x - 2)^4", "(x + 1)(x - 2)"}, {1, "x^2 + 1", "x^2 + 2", "1"}, {1, "6(x - 1)", "10(x - 1)(x + 2)", "2x - 2"},
		{3, "(x + 1)(xy - 2z)^2", "(xy - 2z)(3y^2 + xz)", "2z - xy"}, {3, "(x + 1)(xy - 2z)", "(3y^2 + xz)^2", "1"}, {3, "(x + y)(z + 1)", "(x + y)(z - 1)", "x + y"}, {3, "(x + y)(z + 1)", "(x - y)(z + 1)", "z + 1"},
		{3, "(x + y)z^2 + (x + y)", "(x + y)(x - y)", "x + y"}, {3, "(xy + z)(xz + y)(yz + x)", "(xy + z)^2(yz - x)", "xy + z"}, {3, "(2xy + z)(xz + y)", "(2xy + z)(yz + x)", "z + 2xy"},
		{3, "((y^2 - 1)x + z)(x + 1)", "((y^2 - 1)x + z)(x - 1)", "z + (y^2 - 1)x"}, {3, "(y - 1)(z - 1)((y + z)x + 1)(x + y)", "(y - 1)((y + z)x + 1)(x + z)", "(y - 1)((y + z)x + 1)"},
		{4, "((yz - 1)x^2 + w)((yz - 1)x + 2)", "((yz - 1)x^2 + w)((yz - 1)x + 3)", "(yz - 1)x^2 + w"}, {4, "(x - w)(y - w)(z - w)", "(x - y)(y - z)(z - w)", "w - z"},
		{8, "(x + y + z + w + t + u + v + s)^3", "(x + y + z + w + t + u + v + s)(x - s)", "x + y + z + w + t + u + v + s"}, {8, "(xs + 1)(yv + 2)(zu - 3)(wt - 4)", "(xs + 1)(yv - 2)(zu - 3)(wt + 4)", "(xs + 1)(zu - 3)"},
		{2, "x^3y(x + y)", "xy^3(x - y)", "xy"}, {2, "x^5(x + y^2)", "x^2(x + y^2)(y + 1)", "x^2(x + y^2)"}, {2, "x^1024 - y^1024", "x^1000 - y^1000", "y^8 - x^8"}, {2, "x^1024 - y^512", "x^768 - y^384", "y^128 - x^256"}, {2, "x^1023 - y^1022", "x^1022 - y^1021", "1"},
		{1, "x^1024 - 1", "x^1023 - 1", "x - 1"}, {3, "x^1024y^1024z^1024", "x^1000 + 1", "1"}, {3, "(x^500 + y^500 - z^499)(x^3 - z)", "(x^500 + y^500 - z^499)(y^501 + z^3 - 1)", "y^500 - z^499 + x^500"},
		{2, "(4611686018427387904x + 3y)(x - 1)", "(4611686018427387904x + 3y)(x + 1)", "3y + 4611686018427387904x"}, {1, "340282366920938463463374607431768211456x^2", "680564733841876926926749214863536422912x", "340282366920938463463374607431768211456x"},
	} {
		holdGcd(t, "Gcd of "+c.a+" and "+c.b, parse(c.n, c.a), parse(c.n, c.b), positive(parse(c.n, c.g)))
	}
}

// pieces makes a few polynomials of which products have common divisors.
func pieces(r *rand.Rand, n, terms, most int, size int64) func(count int) api.MPoly {
	var l []api.MPoly
	for range 4 {
		l = append(l, random(r, n, 1+r.IntN(terms), r.IntN(most+1), size))
	}
	return func(count int) api.MPoly {
		p := number(n, 1+r.Int64N(4))
		for range count {
			p = mul(p, l[r.IntN(len(l))])
		}
		return p
	}
}

// P8.2: the divisor is the one that pseudo-remainders tell.
func TestGcdPlain(t *testing.T) {
	for seed := range uint64(2500) {
		r := rand.New(rand.NewPCG(seed, 82))
		made := pieces(r, r.IntN(4), 4, 2, 1+r.Int64N(5))
		a, b := made(r.IntN(4)), made(r.IntN(4))
		if len(a.Terms)*len(b.Terms) < 300 {
			holdGcd(t, "Gcd of"+show(a)+" and"+show(b), a, b, plainGcd(a, b))
		}
	}
}

// factors have none but 1 in common, whatever variables stand for A, B and C.
var factors = []string{
	"A", "A - 1", "A + 1", "A^2 + 1", "A^2 + A + 1", "A^4 + A^3 + A^2 + A + 1", "A - 2", "2A - 1", "A^2 - 2", "A - B", "A + B", "AB - 1", "AB + 1", "A^2 + B^2", "A^2 + B^2 - 1", "A - B^2", "A^5 - B", "A^3 - B^5", "A^7 - B^7 + 1",
	"2A - 3B + 1", "3A^2 + 6B + 5", "A^2B^2 + A + B", "A + B - C", "AB - C", "A^2 + B^2 + C^2 - 1", "AB + BC + CA", "ABC - 1", "A^2B - C + 3",
}

// P8.2: of products of known factors, such as have roots at 0, at 1 and where variables are alike.
func TestGcdKnown(t *testing.T) {
	for seed := range uint64(6000) {
		r := rand.New(rand.NewPCG(seed, 81))
		n := 1 + r.IntN(api.MaxVars)
		a, b, g := number(n, 1), number(n, 1), number(n, 1)
		for _, i := range r.Perm(len(factors))[:1+r.IntN(4)] {
			vars := r.Perm(max(n, 3)) // of variables that there are not no factor is taken
			text := strings.NewReplacer("A", names[vars[0]:][:1], "B", names[vars[1]:][:1], "C", names[vars[2]:][:1]).Replace(factors[i])
			if strings.ContainsAny(text, names[n:]) {
				continue
			}
			p, inA, inB := parse(n, text), r.IntN(3), r.IntN(3)
			for k := range max(inA, inB) {
				if k < inA {
					a = mul(a, p)
				}
				if k < inB {
					b = mul(b, p)
				}
				if k < min(inA, inB) {
					g = mul(g, p)
				}
			}
		}
		holdGcd(t, "Gcd of"+show(a)+" and"+show(b), a, b, positive(g))
	}
}

// P8.2, P8.4: of greater ones: it divides both, each common divisor divides it, and what is left has none.
func TestGcdFollows(t *testing.T) {
	for seed := range uint64(400) {
		r := rand.New(rand.NewPCG(seed, 84))
		n := 1 + r.IntN(api.MaxVars)
		made := pieces(r, n, 8, 1+r.IntN(1+r.IntN(60)), 1+r.Int64N(1<<uint(1+r.IntN(60))))
		a, b, d := made(r.IntN(3)), made(r.IntN(3)), made(1)
		if len(a.Terms) == 0 || len(b.Terms) == 0 || len(d.Terms) == 0 {
			continue
		}
		a, b = mul(a, d), mul(b, d)
		g, e := mgcd.Gcd(a, b)
		if e != api.OK || g.Terms[0].Coef.Neg {
			t.Fatalf("%d: %d, %s", seed, e, show(g))
		}
		p, e1 := mgcd.Exact(a, g)
		q, e2 := mgcd.Exact(b, g)
		if _, e3 := mgcd.Exact(g, d); e1 != api.OK || e2 != api.OK || e3 != api.OK {
			t.Fatalf("%d: %d, %d, %d", seed, e1, e2, e3)
		}
		holdGcd(t, "what is left", p, q, number(n, 1))
	}
}

// P8.2: as many terms as may be, on both sides.
func TestGcdGreat(t *testing.T) {
	g, p, q := parse(3, "(x + y - z + 3)^9"), parse(3, "(x - 2y + z + 1)^10"), parse(3, "(2x + y + z - 1)^9")
	holdGcd(t, "dense", mul(g, p), mul(g, q), positive(g))
	c, _ := big.Left(big.From(5), 9000)
	far := must(mpoly.Const(4, c))
	g, p, q = add(mul(far, parse(4, "x^2y + w")), parse(4, "1")), add(mul(far, parse(4, "x - z")), parse(4, "w")), parse(4, "y^2z + w")
	holdGcd(t, "great numbers", mul(g, p), mul(g, q, far), positive(g))
	r := rand.New(rand.NewPCG(1, 8))
	g, p, q = random(r, 8, 60, 500, 1<<40), random(r, 8, 60, 500, 1<<40), add(random(r, 8, 60, 500, 1<<40), number(8, 1))
	holdGcd(t, "sparse", mul(g, p), mul(g, q), positive(must(mpoly.Prim(g))))
	holdGcd(t, "none", mul(g, p), q, number(8, 1))
	for n := 1; n <= api.MaxVars; n++ {
		holdGcd(t, "what is left has no end", box(n, api.MaxDeg), mul(box(n, 1), add(lone(n, 0, 1), number(n, 5))), positive(box(n, 1)))
	}
	holdGcd(t, "one within the other", box(8, api.MaxDeg), box(8, api.MaxDeg/2), positive(box(8, api.MaxDeg/2)))
}

// P8.2: primes by which divisors may be found divide leads, and what is left of two polynomials modulo them is alike.
func TestGcdPrimes(t *testing.T) {
	bad := number(3, 1)
	for _, below := range []int64{57, 87, 117, 143} {
		bad = mul(bad, number(3, 1<<62-below))
	}
	for _, c := range [][3]string{{"x^2 + y + 1", "x + y", "x - y"}, {"xz + y + 1", "x + y + z", "x + z"}, {"y + 1", "z^3 + 1", "x^2 - 1"}} {
		g, p, q := add(mul(bad, parse(3, c[0])), parse(3, "z - 5")), parse(3, c[1]), parse(3, c[2])
		holdGcd(t, "leads", mul(g, add(mul(bad, p), parse(3, "x"))), mul(g, q), positive(g))
		holdGcd(t, "alike", mul(g, p), mul(g, add(p, bad)), positive(g))
		holdGcd(t, "alike", add(g, mul(bad, parse(3, "xyz"))), g, number(3, 1))
	}
}

// dense makes two sums whose divisor is the product of all powers of x and of y below n, though both are short.
func dense(vars, n int) (a, b api.MPoly) {
	x, y := less1(vars, 0, n), less1(vars, 1, n)
	return mul(x, y), add(mul(powers(vars, 0, n), y, lone(vars, 0, 1)), mul(x, powers(vars, 1, n)))
}

// P8.2: a divisor of more terms than may be is refused, one of just as many is told.
func TestGcdLong(t *testing.T) {
	a, b := dense(2, 64)
	holdGcd(t, "as many terms as may be", a, b, mul(powers(2, 0, 64), powers(2, 1, 64)))
	for _, n := range []int{65, 200, 512} {
		a, b = dense(2, n)
		refused(t, "Gcd", api.ErrMPolyForm)(mgcd.Gcd(a, b))
		refused(t, "Gcd", api.ErrMPolyForm)(mgcd.Gcd(b, a))
	}
}

// P8.2: the first error is told, with nothing beside it.
func TestGcdErrors(t *testing.T) {
	for _, p := range none() {
		for _, q := range append(none(), parse(1, "x"), parse(2, "x"), parse(2, "0"), parse(8, "s - 1")) {
			refused(t, "no polynomial", api.ErrMPolyForm)(mgcd.Gcd(p, q))
			refused(t, "no polynomial", api.ErrMPolyForm)(mgcd.Gcd(q, p))
		}
	}
	for n := range api.MaxVars + 1 {
		for m := range api.MaxVars + 1 {
			if n != m {
				refused(t, "unlike", api.ErrMPolyVars)(mgcd.Gcd(number(n, 0), number(m, 0)))
				refused(t, "unlike", api.ErrMPolyVars)(mgcd.Gcd(number(n, 2), number(m, 4)))
			}
		}
	}
}

package mgcd_test

import (
	"math/rand/v2"
	"testing"

	"terrace/api"
	"terrace/big"
	"terrace/mgcd"
	"terrace/mpoly"
)

// P8.1: quotients, the edges among them.
func TestExact(t *testing.T) {
	for _, c := range []struct {
		n       int
		a, b, q string
	}{
		{0, "12", "-4", "-3"}, {0, "0", "7", "0"}, {1, "0", "x", "0"}, {1, "x", "1", "x"}, {1, "x", "-1", "-x"}, {1, "6x^2 - 6", "3x - 3", "2x + 2"},
		{2, "x^2 - y^2", "x - y", "x + y"}, {2, "x^2 - y^2", "y - x", "-x - y"}, {2, "6x^3y^2", "-2xy^2", "-3x^2"}, {2, "x^7 - y^7", "x - y", "x^6 + x^5y + x^4y^2 + x^3y^3 + x^2y^4 + xy^5 + y^6"},
		{3, "(x + y + z)^9", "(x + y + z)^4", "(x + y + z)^5"}, {3, "(3xy - 2z)(x^2 + 5)(z^3 - xz + 7)", "(z^3 - xz + 7)(3xy - 2z)", "x^2 + 5"},
		{1, "(x^2 + 1)(36893488147419103232x - 1)", "x^2 + 1", "36893488147419103232x - 1"},
		{8, "(x + 2y - z)(w^2t - u)(v + s)^2", "(v + s)(x + 2y - z)", "(w^2t - u)(v + s)"}, {8, "x^1024y^1024z^1024w^1024t^1024u^1024v^1024s^1024", "x^1024z^1000s", "y^1024z^24w^1024t^1024u^1024v^1024s^1023"},
		{2, "(x^64 - 1)(y^64 - 1)", "(x^64 - 1)(y^64 - 1)", "1"}, {2, "(x^1024 - y^1024)", "x^512 + y^512", "x^512 - y^512"},
	} {
		held(t, c.a+" / "+c.b, parse(c.n, c.q))(mgcd.Exact(parse(c.n, c.a), parse(c.n, c.b)))
	}
	held(t, "as many terms as may be", mul(powers(2, 0, 64), powers(2, 1, 64)))(mgcd.Exact(box(2, 64), box(2, 1)))
}

// P8.1: where there is no quotient, by numbers, by exponents, by a last term, or at length.
func TestExactRest(t *testing.T) {
	for _, c := range []struct {
		n    int
		a, b string
	}{
		{0, "7", "2"}, {0, "1", "-18446744073709551616"}, {1, "3x", "2"}, {1, "x + 2", "2"}, {1, "1", "x"}, {1, "x", "x^2"}, {1, "x^2 + 1", "x + 1"}, {1, "2x^2 + 3x + 1", "2x + 2"},
		{2, "x", "y"}, {2, "x^2y", "xy^2"}, {2, "x^2 + y^2", "x + y"}, {2, "x^2 - y^2 + 1", "x - y"}, {2, "xy + x", "y + 2"}, {2, "y^2 + x", "y + x^600"}, {2, "y^1024 + 1", "y - x^1024"}, {2, "y^3 + x^4y", "y + 2x^3"},
		{3, "(x + y + z)^5 + 1", "x + y + z"}, {3, "z^2 - x", "y^2 - x"}, {2, "(x - 1)(y + 1)", "(x + 1)(y + 1)"}, {2, "(x - 1)(y + 1)", "(x - 1)^2"}, {3, "(x + y)(x + z)", "(x + y)^2"},
		{1, "x^1000 - 2", "x - 1"}, {2, "x^1000 + y^1000 - 1", "x + y - 1"}, {2, "x^1000 - y^999", "x - y"},
	} {
		refused(t, c.a+" / "+c.b, api.ErrMPolyRest)(mgcd.Exact(parse(c.n, c.a), parse(c.n, c.b)))
	}
}

// P8.1: a quotient that has too many terms is refused as such, one that there is not is told to be none, however long
// it would go on.
func TestExactLong(t *testing.T) {
	refused(t, "one column too many", api.ErrMPolyForm)(mgcd.Exact(mul(less1(2, 0, 64), less1(2, 1, 65)), box(2, 1)))
	for n := 2; n <= api.MaxVars; n++ {
		a, b := box(n, api.MaxDeg), box(n, 1)
		refused(t, "long", api.ErrMPolyForm)(mgcd.Exact(a, b))
		refused(t, "long", api.ErrMPolyForm)(mgcd.Exact(mul(a, number(n, 6)), mul(b, number(n, -3))))
		refused(t, "long, but for a term", api.ErrMPolyRest)(mgcd.Exact(add(a, number(n, 1)), b))
		refused(t, "long, but for a number", api.ErrMPolyRest)(mgcd.Exact(mul(a, number(n, 4)), mul(b, number(n, 3))))
		refused(t, "long, but for a factor", api.ErrMPolyRest)(mgcd.Exact(a, mul(b, less1(n, n-1, 1))))
		if n < api.MaxVars {
			refused(t, "long, but for a divisor's factor", api.ErrMPolyRest)(mgcd.Exact(a, mul(b, add(lone(n, 0, 1), lone(n, 1, 1)))))
		}
		// What the first hundreds of terms do not show.
		late := mul(add(lone(n, 0, 3), neg(lone(n, 0, 2))), less1(n, 1, 2))
		refused(t, "long, but for a late term", api.ErrMPolyRest)(mgcd.Exact(add(a, late), mul(b, powers(n, 0, 2))))
		refused(t, "long, whatever is added", api.ErrMPolyForm)(mgcd.Exact(mul(add(lone(n, 0, 3), number(n, 7)), mul(less1(n, 0, 1000), less1(n, 1, 1000))), mul(less1(n, 0, 1), less1(n, 1, 1))))
	}
}

// P8.1: a product divided by a factor is the other one; with something of a lower degree added there is no quotient.
func TestExactRandom(t *testing.T) {
	r := rand.New(rand.NewPCG(8, 1))
	for range 4000 {
		n := 1 + r.IntN(api.MaxVars)
		q, b := random(r, n, r.IntN(12), 1+r.IntN(9), 1+r.Int64N(1<<40)), random(r, n, 1+r.IntN(12), 1+r.IntN(9), 1+r.Int64N(1<<40))
		if len(b.Terms) == 0 {
			continue
		}
		a := mul(q, b)
		held(t, show(a)+" /"+show(b), q)(mgcd.Exact(a, b))
		a = add(a, random(r, n, 1, r.IntN(9), 3))
		if want, ok := plainExact(a, b); ok {
			held(t, show(a)+" /"+show(b), want)(mgcd.Exact(a, b))
		} else {
			refused(t, show(a)+" /"+show(b), api.ErrMPolyRest)(mgcd.Exact(a, b))
		}
	}
}

// P8.1: the first error that the chapter lists is told, with nothing beside it.
func TestExactErrors(t *testing.T) {
	for _, p := range none() {
		for _, q := range append(none(), parse(1, "x"), parse(2, "x"), parse(2, "0"), parse(8, "s - 1")) {
			refused(t, "no polynomial", api.ErrMPolyForm)(mgcd.Exact(p, q))
			refused(t, "no polynomial", api.ErrMPolyForm)(mgcd.Exact(q, p))
		}
	}
	for n := range api.MaxVars + 1 {
		for m := range api.MaxVars + 1 {
			for _, p := range []api.MPoly{number(n, 0), number(n, 2)} {
				for _, q := range []api.MPoly{number(m, 0), number(m, 3)} {
					want := api.ErrMPolyVars
					switch {
					case n == m && len(q.Terms) == 0:
						want = api.ErrMPolyZero
					case n == m && len(p.Terms) == 0:
						continue
					case n == m:
						want = api.ErrMPolyRest
					}
					refused(t, "two", want)(mgcd.Exact(p, q))
				}
			}
		}
	}
}

// What has a long tail of numbers is divided as quickly as it is multiplied, and the lengths of numbers do not matter.
func TestExactGreat(t *testing.T) {
	c, _ := big.Left(big.From(3), api.MaxShift)
	far := must(mpoly.Const(3, c))
	q, b := add(mul(far, parse(3, "x^2y - 5z")), parse(3, "xyz + 1")), add(mul(far, parse(3, "y^3 + z")), parse(3, "x - z^2"))
	held(t, "great numbers", q)(mgcd.Exact(mul(q, b), b))
	refused(t, "great numbers", api.ErrMPolyRest)(mgcd.Exact(add(mul(q, b), number(3, 1)), b))
	q, b = parse(3, "(x + 2y - 3z + 5)^9"), parse(3, "(x - y + z + 1)^11")
	held(t, "many terms", q)(mgcd.Exact(mul(q, b), b))
}

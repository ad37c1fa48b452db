package mgcd_test

import (
	"math"
	"math/rand/v2"
	"testing"

	"terrace/api"
	"terrace/mgcd"
	"terrace/mpoly"
)

// P8.3: contents and parts, of 0, of what v does not stand in, and with a lead below 0.
func TestContent(t *testing.T) {
	for _, c := range []struct {
		n, v             int
		p, content, part string
	}{
		{2, 1, "2xy + 4x", "2x", "y + 2"}, {2, 0, "2xy + 4x", "2y + 4", "x"}, {2, 1, "-3x", "3x", "1"}, {2, 0, "-3x", "3", "x"}, {2, 1, "0", "0", "0"}, {1, 0, "0", "0", "0"}, {1, 0, "6x - 4", "2", "3x - 2"}, {1, 0, "-5", "5", "1"},
		{2, 1, "(x - 1)y^2 + (x^2 - 1)", "x - 1", "y^2 + x + 1"}, {2, 1, "(1 - x)y^2 - (x^2 - 1)", "x - 1", "y^2 + x + 1"}, {2, 1, "xy + x + 1", "1", "xy + x + 1"}, {2, 0, "x - y", "1", "y - x"},
		{3, 2, "(x + y)(x - y)z^2 + (x + y)^2z - 2(x + y)", "x + y", "(x - y)z^2 + (x + y)z - 2"}, {3, 0, "(yz - 1)(x^2 + 3) + 5x(yz - 1)^2", "yz - 1", "x^2 + 3 + 5x(yz - 1)"},
		{3, 1, "(x^2 - z)^3(z + 1)", "(x^2 - z)^3(z + 1)", "1"}, {8, 3, "(x + s)w^9 + (x + s)(t + u)w - (x + s)v", "x + s", "w^9 + (t + u)w - v"},
	} {
		p := parse(c.n, c.p)
		held(t, "Content of "+c.p, positive(parse(c.n, c.content)))(mgcd.Content(p, c.v))
		held(t, "Part of "+c.p, positive(parse(c.n, c.part)))(mgcd.Part(p, c.v))
		held(t, "Content, opposite", positive(parse(c.n, c.content)))(mgcd.Content(neg(p), c.v))
		held(t, "Part, opposite", positive(parse(c.n, c.part)))(mgcd.Part(neg(p), c.v))
	}
}

// P8.3: the content is the Gcd of all coefficients, and what is left of p when it is taken out has the content 1.
// P8.4: a product's content is the product of contents.
func TestContentFollows(t *testing.T) {
	for seed := range uint64(1500) {
		r := rand.New(rand.NewPCG(seed, 83))
		n := 1 + r.IntN(4)
		v := r.IntN(n)
		made := pieces(r, n, 4, 3, 1+r.Int64N(30))
		p, q := made(r.IntN(3)), made(r.IntN(3))
		c, part := holdContent(t, p, v), must(mgcd.Part(p, v))
		held(t, "product", mul(c, holdContent(t, q, v)))(mgcd.Content(mul(p, q), v))
		held(t, "whole", positive(p))(mpoly.Mul(c, part))
		if len(p.Terms) > 0 {
			held(t, "left", number(n, 1))(mgcd.Content(part, v))
		}
	}
}

func holdContent(t *testing.T, p api.MPoly, v int) api.MPoly {
	t.Helper()
	l, _ := mpoly.Coefs(p, v)
	want := api.MPoly{Vars: p.Vars}
	for _, q := range l {
		want = must(mgcd.Gcd(want, q))
	}
	held(t, "Content of"+show(p), want)(mgcd.Content(p, v))
	return want
}

// P8.3: an answer of more terms than may be is refused, but not what is found on the way to one.
func TestContentLong(t *testing.T) {
	a, b := dense(3, 70)
	p := add(mul(a, lone(3, 2, 1)), b)
	refused(t, "Content", api.ErrMPolyForm)(mgcd.Content(p, 2))
	held(t, "Part", parse(3, "(x - 1)(y - 1)z + (y - 1)x + x - 1"))(mgcd.Part(p, 2))
	// Two coefficients have a long divisor in common, all have none.
	a, b = dense(3, 450)
	p = add(mul(a, lone(3, 2, 2)), mul(b, lone(3, 2, 1)), mul(powers(3, 0, 41), powers(3, 1, 47), parse(3, "xy + 2")))
	held(t, "Content", number(3, 1))(mgcd.Content(p, 2))
	held(t, "Part", positive(p))(mgcd.Part(p, 2))
	// The part is longer than p.
	p = add(mul(box(3, 70), lone(3, 0, 71)), mul(less1(3, 1, 1), less1(3, 2, 1)))
	held(t, "Content", positive(parse(3, "(y - 1)(z - 1)")))(mgcd.Content(p, 0))
	refused(t, "Part", api.ErrMPolyForm)(mgcd.Part(p, 0))
}

// P8.3: no polynomial, no variable.
func TestContentErrors(t *testing.T) {
	for _, p := range none() {
		for _, v := range []int{0, 1, -1, 8, 99} {
			refused(t, "Content", api.ErrMPolyForm)(mgcd.Content(p, v))
			refused(t, "Part", api.ErrMPolyForm)(mgcd.Part(p, v))
		}
	}
	for n := range api.MaxVars + 1 {
		for _, v := range []int{-1, n, n + 1, math.MaxInt, math.MinInt} {
			for _, p := range []api.MPoly{number(n, 0), number(n, -2)} {
				refused(t, "Content", api.ErrMPolyVars)(mgcd.Content(p, v))
				refused(t, "Part", api.ErrMPolyVars)(mgcd.Part(p, v))
			}
		}
	}
}

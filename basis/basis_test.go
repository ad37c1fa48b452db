package basis_test

import (
	"math"
	"slices"
	"testing"

	"terrace/api"
	"terrace/basis"
	"terrace/big"
	"terrace/mpoly"
)

// P10.1: classes of alike factors, in rising order.
func TestMake(t *testing.T) {
	for _, c := range []struct {
		n, v int
		l    []string
		want []string
	}{
		{1, 0, []string{"(x - 1)^2(x + 1)", "x + 1"}, []string{"x - 1", "x + 1"}},
		{1, 0, []string{"x^2 - 1"}, []string{"x^2 - 1"}},
		{1, 0, []string{"x^2 - 1", "x^2 - 1"}, []string{"x^2 - 1"}},
		{1, 0, []string{"(x^2 - 1)^7"}, []string{"x^2 - 1"}},
		{1, 0, []string{"x"}, []string{"x"}},
		{1, 0, []string{"5"}, nil},
		{1, 0, []string{"1", "7", "x^3"}, []string{"x"}},
		{1, 0, []string{"6x^2 - 6", "4 - 4x"}, []string{"x - 1", "x + 1"}},
		{1, 0, []string{"(2x - 3)(3x + 2)", "(2x - 3)^2"}, []string{"2x - 3", "3x + 2"}},
		{1, 0, []string{"x(x + 1)^2(x + 2)^3(x + 3)^4"}, []string{"x", "x + 1", "x + 2", "x + 3"}},
		{1, 0, []string{"x(x + 1)", "x(x + 2)", "(x + 1)(x + 2)"}, []string{"x", "x + 1", "x + 2"}},
		{1, 0, []string{"x(x + 1)(x + 2)", "x(x + 1)(x + 3)"}, []string{"x(x + 1)", "x + 2", "x + 3"}},
		{1, 0, []string{"x^2(x + 1)^2", "x^3(x + 1)^3", "(x + 2)^2"}, []string{"x(x + 1)", "x + 2"}},
		{1, 0, []string{"x^2(x + 1)^2", "x^3(x + 1)^2"}, []string{"x", "x + 1"}},
		{2, 1, []string{"(y - 1)(y + 1)^2(y^2 + x)"}, []string{"y + 1", "(y - 1)(y^2 + x)"}},
		{2, 1, []string{"(y - 1)(y + 1)", "(y + 1)(y^2 + x)"}, []string{"y - 1", "y + 1", "y^2 + x"}},
		{2, 1, []string{"(x - 3)(y - 1)", "1 - y"}, []string{"y - 1"}},
		{2, 1, []string{"x^2 - 1", "(x + 1)^3", "x - 7"}, nil},
		{2, 1, []string{"(x - 3)^3(y - 1)(y^2 + x)", "(y^2 + x)^3(x + 1)"}, []string{"y - 1", "y^2 + x"}},
		{2, 0, []string{"(x - 3)^3(y - 1)(y^2 + x)", "(y^2 + x)^3(x + 1)"}, []string{"x - 3", "y^2 + x", "x + 1"}},
		{2, 0, []string{"x^2 - y^2", "x^2 - 2xy + y^2"}, []string{"y - x", "y + x"}},
		{2, 0, []string{"x^2y - y"}, []string{"x^2 - 1"}},
		{2, 0, []string{"(2y + 4)(x - 1)", "6x^2 - 6"}, []string{"x - 1", "x + 1"}},
		{2, 0, []string{"xy + 1", "x^2y^2 - 1"}, []string{"xy + 1", "xy - 1"}},
		{3, 2, []string{"(xz + y)^2(yz + x)", "(yz + x)^2(xz + y)"}, []string{"xz + y", "yz + x"}},
		{3, 1, []string{"(xz + y)^2(yz + x)", "(yz + x)^2(xz + y)^4"}, []string{"xz + y", "yz + x"}},
		{3, 1, []string{"(xz + y)^2(yz + x)^2", "x(yz + x)^3(xz + y)^3"}, []string{"(xz + y)(yz + x)"}},
		{3, 0, []string{"z^3 - 1", "z - 1"}, nil},
		{8, 7, []string{"(s - x - y - z - w - t - u - v)^2", "s^2 - (x + y + z + w + t + u + v)^2"}, []string{"s - x - y - z - w - t - u - v", "s + x + y + z + w + t + u + v"}},
	} {
		l := parseAll(c.n, c.l...)
		held(t, "whole", l, c.v, parseAll(c.n, c.want...))
		slices.Reverse(l)
		held(t, "turned round", l, c.v, parseAll(c.n, c.want...))
	}
}

// P10.1: the order is that of layer 7, not that of what was handed in.
func TestOrder(t *testing.T) {
	got, e := basis.Make(parseAll(2, "y^2 + x", "y - 1", "x^5y + 7", "y", "2y + 3", "y + 5"), 1)
	want := parseAll(2, "y", "y - 1", "y + 5", "2y + 3", "x^5y + 7", "y^2 + x")
	slices.SortFunc(want, mpoly.Cmp)
	if e != api.OK || !slices.EqualFunc(got, want, same) {
		t.Errorf("error %d:%s", e, show(got...))
	}
	for i := range len(got) - 1 {
		if mpoly.Cmp(got[i], got[i+1]) >= 0 {
			t.Errorf("%s is not below%s", show(got[i]), show(got[i+1]))
		}
	}
}

// P10.1: of no polynomials nothing is told, whatever v is.
func TestNothing(t *testing.T) {
	for _, v := range []int{0, 1, -1, 7, 8, 77, math.MinInt, math.MaxInt} {
		for _, l := range [][]api.MPoly{nil, {}} {
			if got, e := basis.Make(l, v); e != api.OK || len(got) > 0 {
				t.Errorf("v %d: error %d:%s", v, e, show(got...))
			}
		}
	}
}

// none lists what is no polynomial.
func none() []api.MPoly {
	one := big.From(1)
	term := func(c api.Int, exps ...int) api.Term { return api.Term{Exps: exps, Coef: c} }
	return []api.MPoly{
		{Vars: -1}, {Vars: api.MaxVars + 1}, {Vars: math.MaxInt},
		{Vars: 2, Terms: []api.Term{term(one, 1)}}, {Vars: 2, Terms: []api.Term{term(one, 1, 0, 0)}},
		{Vars: 2, Terms: []api.Term{term(api.Int{}, 1, 1)}}, {Vars: 2, Terms: []api.Term{term(one, -1, 1)}}, {Vars: 2, Terms: []api.Term{term(one, 0, api.MaxDeg+1)}},
		{Vars: 2, Terms: []api.Term{term(one, 0, 1), term(one, 0, 1)}}, {Vars: 2, Terms: []api.Term{term(one, 5, 0), term(one, 0, 1)}},
		{Vars: 2, Terms: []api.Term{term(long(false, 1, 0), 0, 1)}}, {Vars: 2, Terms: []api.Term{term(api.Int{Neg: true}, 0, 1)}},
	}
}

// P10.1: errors, the first one of them, and nothing beside it.
func TestErrors(t *testing.T) {
	p, zero, other := parse(2, "y^2 - x"), parse(2, "0"), parse(1, "x - 1")
	for _, bad := range none() {
		for _, l := range [][]api.MPoly{{bad}, {p, bad}, {bad, p}, {zero, bad}, {bad, zero}, {bad, other}, {other, bad}, {p, other, bad}, {zero, other, bad}} {
			refused(t, "no polynomial", l, 0, api.ErrMPolyForm)
		}
		for _, v := range []int{-1, 2, 8, math.MinInt, math.MaxInt} {
			refused(t, "no polynomial, no variable", []api.MPoly{bad, p}, v, api.ErrMPolyForm)
			refused(t, "no variable, no polynomial", []api.MPoly{p, bad}, v, api.ErrMPolyVars)
		}
	}
	for _, v := range []int{-1, 2, 8, math.MinInt, math.MaxInt} {
		for _, l := range [][]api.MPoly{{p}, {zero}, {p, zero}, {zero, p}, {p, other}, {parse(2, "5")}} {
			refused(t, "no variable", l, v, api.ErrMPolyVars)
		}
	}
	for _, l := range [][]api.MPoly{{p, other}, {other, p}, {zero, other}, {other, zero}, {p, p, zero, other}, {parse(2, "5"), parse(1, "5")}, {p, parse(3, "y^2 - x")}} {
		refused(t, "unlike variables", l, 0, api.ErrMPolyVars)
	}
	for _, l := range [][]api.MPoly{{zero}, {p, zero}, {zero, p}, {parse(2, "3"), zero}, {p, p, p, {Vars: 2, Terms: []api.Term{}}}} {
		for v := range 2 {
			refused(t, "0", l, v, api.ErrMPolyZero)
		}
	}
	refused(t, "numbers have no variable", []api.MPoly{parse(0, "5")}, 0, api.ErrMPolyVars)
	refused(t, "0 has none either", []api.MPoly{{}}, 0, api.ErrMPolyVars)
}

// P10.1: at the highest exponents.
func TestHighest(t *testing.T) {
	held(t, "power", parseAll(1, "x^1024"), 0, parseAll(1, "x"))
	held(t, "power and more", parseAll(2, "x^1024y^1024", "x^3 - y^1024"), 0, parseAll(2, "x", "y^1024 - x^3"))
	held(t, "all", parseAll(8, "x^1024y^1024z^1024w^1024t^1024u^1024v^1024s^1024 - 1"), 3, parseAll(8, "x^1024y^1024z^1024w^1024t^1024u^1024v^1024s^1024 - 1"))
	held(t, "difference", parseAll(2, "y^1024 - x^1024", "y - x", "y^2 + x^2"), 1, parseAll(2, "y - x", "y^2 + x^2", "(y + x)(y^4 + x^4)(y^8 + x^8)(y^16 + x^16)(y^32 + x^32)(y^64 + x^64)(y^128 + x^128)(y^256 + x^256)(y^512 + x^512)"))
	held(t, "two powers", []api.MPoly{mul(raised(parse(2, "y + x"), 300), raised(parse(2, "y - 2x"), 200))}, 1, parseAll(2, "y + x", "y - 2x"))
	held(t, "one power", []api.MPoly{raised(parse(2, "y + x"), 600)}, 1, parseAll(2, "y + x"))
}

// P10.1: whatever primes divide numbers, few or many.
func TestNumbers(t *testing.T) {
	one := big.From(1)
	for range 12 {
		for _, add1 := range []string{"7 + x", "xyz + 7"} {
			c := must(mpoly.Const(3, one))
			g := add(mul(c, parse(3, "y")), parse(3, add1))
			p, q := parse(3, "x + y + 3"), add(mul(c, parse(3, "xy")), parse(3, "2"))
			held(t, "numbers", []api.MPoly{mul(g, p), mul(g, g, q), mul(c, p, c, q)}, 1, []api.MPoly{g, p, q})
		}
		one, _ = big.Mul(one, long(false, 1<<62-57))
		one, _ = big.Mul(one, long(false, 1<<61-1, 5))
	}
}

// P10.1: many polynomials.
func TestMany(t *testing.T) {
	var l, twice []api.MPoly
	for i := range int64(600) {
		l = append(l, add(mul(number(2, i%5+1), lone(2, 1, 1)), mul(number(2, i), lone(2, 0, 1)), number(2, 1)))
	}
	held(t, "lines", append(l, l...), 1, l)
	for i := range l {
		twice = append(twice, mul(l[i], l[(i+1)%len(l)], l[i]))
	}
	held(t, "products", twice, 1, l)
	held(t, "products, and more", append(twice, l[:100]...), 1, l)
}

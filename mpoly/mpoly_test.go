package mpoly_test

import (
	"cmp"
	"math"
	mathbig "math/big"
	"math/rand/v2"
	"testing"

	"terrace/api"
	"terrace/big"
	"terrace/mpoly"
)

// P7.1: Check tells what is none, and lets all else pass, at the edges too.
func TestCheck(t *testing.T) {
	for i, p := range none() {
		if e := mpoly.Check(p); e != api.ErrMPolyForm {
			t.Errorf("%d: %d", i, e)
		}
	}
	for i, p := range []api.MPoly{
		{}, {Vars: api.MaxVars}, {Terms: []api.Term{}}, parse(0, "-3"), parse(8, "x^1024y^1024z^1024w^1024t^1024u^1024v^1024s^1024 + 1"), lone(1, 1, 0, api.MaxDeg), grid(2, 64, 64, ones), parse(2, "y^2 + x^3y + x^5"),
		{Terms: []api.Term{{Exps: []int{}, Coef: big.From(2)}}},
	} {
		if e := mpoly.Check(p); e != api.OK {
			t.Errorf("%d: %d", i, e)
		}
	}
}

// P7.1: every call tells ErrMPolyForm ahead of all else of what is no polynomial, with nothing beside it.
func TestNoPolynomial(t *testing.T) {
	for _, p := range none() {
		for _, q := range append(none(), parse(1, "x"), parse(2, "x"), parse(0, ""), parse(8, "s - 1")) {
			for _, both := range [][2]api.MPoly{{p, q}, {q, p}} {
				refused(t, "Add", api.ErrMPolyForm)(mpoly.Add(both[0], both[1]))
				refused(t, "Sub", api.ErrMPolyForm)(mpoly.Sub(both[0], both[1]))
				refused(t, "Mul", api.ErrMPolyForm)(mpoly.Mul(both[0], both[1]))
				refused(t, "Of", api.ErrMPolyForm)(mpoly.Of(both[:], 0))
				refused(t, "Of", api.ErrMPolyForm)(mpoly.Of(both[:], 9))
				if order := mpoly.Cmp(both[0], both[1]); order != 0 {
					t.Errorf("Cmp: %d", order)
				}
			}
		}
		refused(t, "Neg", api.ErrMPolyForm)(mpoly.Neg(p))
		refused(t, "Prim", api.ErrMPolyForm)(mpoly.Prim(p))
		if n, e := mpoly.Level(p); n != 0 || e != api.ErrMPolyForm {
			t.Errorf("Level: %d, %d", n, e)
		}
		if v, e := mpoly.Eval(p, []api.Rat{{}}); e != api.ErrMPolyForm || v.Den != nil || v.Num.Mag != nil {
			t.Errorf("Eval: %v, %d", v, e)
		}
		for _, v := range []int{0, 1, -1, 8, 99} {
			holdVarError(t, p, v, api.ErrMPolyForm)
		}
	}
}

// holdVarError asks all calls that take a variable.
func holdVarError(t *testing.T, p api.MPoly, v int, want api.Errno) {
	t.Helper()
	refused(t, "Der", want)(mpoly.Der(p, v))
	refused(t, "Put", want)(mpoly.Put(p, v, api.Rat{}))
	refused(t, "Put", want)(mpoly.Put(p, v, api.Rat{Num: big.From(3), Den: api.Nat{1}}))
	if n, e := mpoly.Deg(p, v); n != 0 || e != want {
		t.Errorf("Deg: %d, %d", n, e)
	}
	if l, e := mpoly.Coefs(p, v); l != nil || e != want {
		t.Errorf("Coefs: %v, %d", l, e)
	}
	if u, is, e := mpoly.Uni(p, v); u != nil || is || e != want {
		t.Errorf("Uni: %v, %t, %d", u, is, e)
	}
}

// P7.1: variables that are none, and polynomials that do not have as many.
func TestVariables(t *testing.T) {
	for n := range api.MaxVars + 1 {
		p := api.MPoly{Vars: n}
		if n > 0 {
			p = lone(n, 4, n-1, 2)
		}
		for _, v := range []int{-1, n, n + 1, api.MaxVars, math.MaxInt, math.MinInt} {
			if v < 0 || v >= n {
				holdVarError(t, p, v, api.ErrMPolyVars)
				refused(t, "Of", api.ErrMPolyVars)(mpoly.Of([]api.MPoly{p}, v))
				refused(t, "Var", api.ErrMPolyVars)(mpoly.Var(n, v))
			}
		}
		for m := range api.MaxVars + 1 {
			if q := (api.MPoly{Vars: m}); m != n {
				refused(t, "Add", api.ErrMPolyVars)(mpoly.Add(p, q))
				refused(t, "Sub", api.ErrMPolyVars)(mpoly.Sub(p, q))
				refused(t, "Mul", api.ErrMPolyVars)(mpoly.Mul(p, q))
				refused(t, "Of", api.ErrMPolyVars)(mpoly.Of([]api.MPoly{{Vars: n}, {Vars: n}, q}, 0))
				if order := mpoly.Cmp(p, q); order != 0 {
					t.Errorf("Cmp: %d", order)
				}
			}
		}
	}
}

// P7.1: constants and variables, and those that may not be.
func TestConstVar(t *testing.T) {
	for n := range api.MaxVars + 1 {
		for _, c := range []api.Int{big.From(1), big.From(-3), long(true, 0, 7)} {
			held(t, "Const", model{key{}: out(c)}.made(n))(mpoly.Const(n, c))
		}
		held(t, "Const", api.MPoly{Vars: n})(mpoly.Const(n, api.Int{}))
		held(t, "Const", api.MPoly{Vars: n})(mpoly.Const(n, api.Int{Mag: api.Nat{}}))
		for v := range n {
			held(t, "Var", lone(n, 1, v, 1))(mpoly.Var(n, v))
		}
	}
	for _, n := range []int{-1, api.MaxVars + 1, math.MaxInt, math.MinInt} {
		refused(t, "Const", api.ErrMPolyVars)(mpoly.Const(n, big.From(5)))
		refused(t, "Const", api.ErrMPolyVars)(mpoly.Const(n, api.Int{}))
		refused(t, "Var", api.ErrMPolyVars)(mpoly.Var(n, 0))
		refused(t, "Var", api.ErrMPolyVars)(mpoly.Var(n, n-1))
	}
	for _, c := range noNumbers() {
		for _, n := range []int{0, 3, -1, api.MaxVars + 1} {
			refused(t, "Const", api.ErrMPolyForm)(mpoly.Const(n, c))
		}
	}
}

// P7.1: the order goes by the first terms that differ; one that has no more terms is lower.
func TestOrder(t *testing.T) {
	up := []string{"", "-2", "3", "-5x", "-5x + 1", "x", "x - 9", "x + 1", "2x", "x^1024", "-y", "y", "y + 4", "y - x", "y + x", "2y", "xy", "x^2y", "-y^2", "y^2", "y^2 - 7y", "y^2 + x^3y - x^5", "y^2 + x^3y + x^5"}
	for i, a := range up {
		for j, b := range up {
			want := cmp.Compare(i, j)
			if order := mpoly.Cmp(parse(2, a), parse(2, b)); order != want {
				t.Errorf("%q against %q: %d, want %d", a, b, order, want)
			}
		}
	}
}

// P7.2: sums, differences, products, opposites, in any number of variables.
func TestRing(t *testing.T) {
	r := rand.New(rand.NewPCG(7, 1))
	for i := range 1500 {
		n := i % (api.MaxVars + 1)
		p, q := random(r, n, 9, 1+i%4), random(r, n, 9, 1+i%5)
		held(t, "Add"+show(p)+" and"+show(q), modelSum(p, q, 1).made(n))(mpoly.Add(p, q))
		held(t, "Sub"+show(p)+" and"+show(q), modelSum(p, q, -1).made(n))(mpoly.Sub(p, q))
		held(t, "Mul"+show(p)+" and"+show(q), modelProduct(p, q).made(n))(mpoly.Mul(p, q))
		held(t, "Neg"+show(p), modelSum(api.MPoly{Vars: n}, p, -1).made(n))(mpoly.Neg(p))
		held(t, "Sub itself"+show(p), api.MPoly{Vars: n})(mpoly.Sub(p, p))
	}
}

// P7.2: exponents up to MaxDeg are told, one more is refused; 0 has none.
func TestHighest(t *testing.T) {
	for n := 1; n <= api.MaxVars; n++ {
		for v := range n {
			half := lone(n, 3, v, api.MaxDeg/2)
			held(t, "Mul", lone(n, 9, v, api.MaxDeg))(mpoly.Mul(half, half))
			refused(t, "Mul", api.ErrMPolyForm)(mpoly.Mul(half, lone(n, 1, v, api.MaxDeg/2+1)))
			top := modelSum(lone(n, 1, v, api.MaxDeg), lone(n, -1, v, 0), 1).made(n)
			refused(t, "Mul", api.ErrMPolyForm)(mpoly.Mul(top, lone(n, 1, v, 1)))
			refused(t, "Mul", api.ErrMPolyForm)(mpoly.Mul(top, top))
			held(t, "Mul", api.MPoly{Vars: n})(mpoly.Mul(top, api.MPoly{Vars: n}))
			held(t, "Mul", api.MPoly{Vars: n})(mpoly.Mul(api.MPoly{Vars: n}, top))
			held(t, "Mul", modelProduct(top, lone(n, -7, v, 0)).made(n))(mpoly.Mul(top, lone(n, -7, v, 0)))
		}
	}
}

// P7.2: MaxTerms terms are told, one more is refused, what cancels does not count.
func TestMostTerms(t *testing.T) {
	full := grid(2, 64, 64, ones)
	held(t, "Add", modelSum(full, full, 1).made(2))(mpoly.Add(full, full))
	held(t, "Sub", api.MPoly{Vars: 2})(mpoly.Sub(full, full))
	held(t, "Neg", grid(2, 64, 64, func(int, int) int64 { return -1 }))(mpoly.Neg(full))
	one := parse(2, "x^64")
	refused(t, "Add", api.ErrMPolyForm)(mpoly.Add(full, one))
	refused(t, "Add", api.ErrMPolyForm)(mpoly.Add(one, full))
	refused(t, "Sub", api.ErrMPolyForm)(mpoly.Sub(full, one))
	swapped := modelSum(modelSum(full, one, 1).made(2), parse(2, "y^63"), -1).made(2)
	held(t, "Add", swapped)(mpoly.Add(full, parse(2, "x^64 - y^63")))
	held(t, "Mul", full)(mpoly.Mul(grid(2, 64, 1, ones), grid(2, 1, 64, ones)))
	refused(t, "Mul", api.ErrMPolyForm)(mpoly.Mul(grid(2, 65, 1, ones), grid(2, 1, 64, ones)))
	refused(t, "Mul", api.ErrMPolyForm)(mpoly.Mul(full, parse(2, "x + 1")))
	refused(t, "Mul", api.ErrMPolyForm)(mpoly.Mul(full, full))
	held(t, "Mul", parse(2, "x^64y^64 - y^64 - x^64 + 1"))(mpoly.Mul(full, parse(2, "xy - x - y + 1")))
	held(t, "Mul", parse(2, "x^64y^64 - y^64 - x^64 + 1"))(mpoly.Mul(parse(2, "xy - x - y + 1"), full))
}

// wave makes a grid's coefficients unlike one another, some of them 0.
func wave(a, b int64) func(i, j int) int64 {
	return func(i, j int) int64 { return (int64(i)*a+int64(j)*b)%7 - 3 }
}

// P7.2: products of many terms, which are too many to be gathered at once.
func TestManyProducts(t *testing.T) {
	for i, c := range []struct{ p, q api.MPoly }{
		{grid(2, 32, 32, ones), grid(2, 32, 32, ones)},
		{grid(2, 32, 31, wave(3, 5)), grid(2, 32, 33, wave(2, 1))},
		{grid(2, 600, 2, wave(1, 3)), grid(2, 400, 1, wave(5, 1))},
		{grid(2, 3, 700, wave(1, 3)), grid(2, 2, 300, wave(5, 1))},
		{grid(2, 1024, 4, ones), grid(2, 1, 1000, func(_, j int) int64 { return int64(j%2*2 - 1) })},
	} {
		want := gridProduct(c.p, c.q)
		for _, both := range [][2]api.MPoly{{c.p, c.q}, {c.q, c.p}} {
			got, e := mpoly.Mul(both[0], both[1])
			if len(want.Terms) > api.MaxTerms {
				if e != api.ErrMPolyForm {
					t.Errorf("%d: %d", i, e)
				}
			} else if e != api.OK || !same(got, want) || mpoly.Check(got) != api.OK {
				t.Errorf("%d: %d", i, e)
			}
		}
	}
}

// gridProduct multiplies short coefficients in a table.
func gridProduct(p, q api.MPoly) api.MPoly {
	table := make([][2048]int64, 2048)
	for _, x := range p.Terms {
		c, _ := big.Small(x.Coef)
		for _, y := range q.Terms {
			d, _ := big.Small(y.Coef)
			table[x.Exps[1]+y.Exps[1]][x.Exps[0]+y.Exps[0]] += c * d
		}
	}
	m := model{}
	for j := range table {
		for i, c := range table[j] {
			if c != 0 {
				m.add(key{i, j}, mathbig.NewInt(c))
			}
		}
	}
	return m.made(2)
}

// P7.5: a ring.
func TestRingLaws(t *testing.T) {
	r := rand.New(rand.NewPCG(7, 2))
	add := func(p, q api.MPoly) api.MPoly { s, _ := mpoly.Add(p, q); return s }
	mul := func(p, q api.MPoly) api.MPoly { s, _ := mpoly.Mul(p, q); return s }
	for i := range 300 {
		n := i % (api.MaxVars + 1)
		p, q, s := random(r, n, 6, 3), random(r, n, 6, 3), random(r, n, 6, 3)
		one, _ := mpoly.Const(n, big.From(1))
		zero, _ := mpoly.Const(n, api.Int{})
		minus, _ := mpoly.Neg(p)
		for k, c := range [][2]api.MPoly{
			{add(p, q), add(q, p)}, {mul(p, q), mul(q, p)}, {add(add(p, q), s), add(p, add(q, s))}, {mul(mul(p, q), s), mul(p, mul(q, s))},
			{mul(p, add(q, s)), add(mul(p, q), mul(p, s))}, {mul(p, one), p}, {add(p, zero), p}, {mul(p, zero), zero}, {add(p, minus), zero},
		} {
			if !same(c[0], c[1]) || mpoly.Cmp(c[0], c[1]) != 0 {
				t.Fatalf("law %d:%s\n%s\n%s", k, show(p), show(q), show(s))
			}
		}
	}
}

// P7.4: Prim divides by the coefficients' greatest common divisor, and makes the lead positive.
func TestPrim(t *testing.T) {
	for _, c := range [][2]string{
		{"", ""}, {"1", "1"}, {"-1", "1"}, {"12", "1"}, {"-12", "1"}, {"-4xy + 6", "2xy - 3"}, {"6x - 4y", "2y - 3x"}, {"-x", "x"}, {"3x + 5", "3x + 5"},
		{"10x^2 - 15y^2 + 25", "3y^2 - 2x^2 - 5"}, {"-7x - 7y", "x + y"}, {"36893488147419103232x + 18446744073709551616", "2x + 1"},
	} {
		held(t, "Prim "+c[0], parse(2, c[1]))(mpoly.Prim(parse(2, c[0])))
	}
	held(t, "Prim", parse(0, "1"))(mpoly.Prim(parse(0, "-6")))
	r := rand.New(rand.NewPCG(7, 3))
	for i := range 300 {
		p := random(r, 1+i%4, 6, 4)
		want, d := taken(p), new(mathbig.Int)
		for _, c := range want {
			d.GCD(nil, nil, d, new(mathbig.Int).Abs(c))
		}
		if len(p.Terms) > 0 && p.Terms[0].Coef.Neg {
			d.Neg(d)
		}
		for _, c := range want {
			c.Quo(c, d)
		}
		held(t, "Prim"+show(p), want.made(p.Vars))(mpoly.Prim(p))
	}
}

// P7.1 to P7.4: the examples of the chapter.
func TestExamples(t *testing.T) {
	p := parse(2, "x^5 + x^3y + y^2")
	if s := show(p); s != " +1y^2 +1x^3y^1 +1x^5" || mpoly.Check(p) != api.OK {
		t.Errorf("the order of terms: %s", s)
	}
	l, e := mpoly.Coefs(parse(2, "xy^2 + 3y^2 - x"), 1)
	if e != api.OK || len(l) != 3 || !same(l[0], parse(2, "-x")) || !same(l[1], parse(2, "")) || !same(l[2], parse(2, "x + 3")) {
		t.Errorf("Coefs: %v, %d", l, e)
	}
	held(t, "Put", parse(2, "y + 2"))(mpoly.Put(parse(2, "xy + 1"), 0, api.Rat{Num: big.From(1), Den: api.Nat{2}}))
	if n, e := mpoly.Level(parse(2, "x")); n != 1 || e != api.OK {
		t.Errorf("Level: %d, %d", n, e)
	}
}

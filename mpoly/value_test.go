package mpoly_test

import (
	mathbig "math/big"
	"math/rand/v2"
	"testing"

	"terrace/api"
	"terrace/big"
	"terrace/mpoly"
	"terrace/rat"
)

// raised tells a to the n.
func raised(a *mathbig.Rat, n int) *mathbig.Rat {
	e := mathbig.NewInt(int64(n))
	return new(mathbig.Rat).SetFrac(new(mathbig.Int).Exp(a.Num(), e, nil), new(mathbig.Int).Exp(a.Denom(), e, nil))
}

// valueOf sums up term by term.
func valueOf(p api.MPoly, a []*mathbig.Rat) *mathbig.Rat {
	sum := new(mathbig.Rat)
	for _, t := range p.Terms {
		x := new(mathbig.Rat).SetInt(out(t.Coef))
		for v, e := range t.Exps {
			x.Mul(x, raised(a[v], e))
		}
		sum.Add(sum, x)
	}
	return sum
}

func holdEval(t *testing.T, p api.MPoly, a []*mathbig.Rat) {
	t.Helper()
	var point []api.Rat
	for _, x := range a {
		point = append(point, ratIn(x))
	}
	want := valueOf(p, a)
	if v, e := mpoly.Eval(p, point); e != api.OK || rat.Check(v) != api.OK || ratOut(v).Cmp(want) != 0 {
		t.Fatalf("Eval of%s at %v: %s, %d, want %s", show(p), a, rat.Text(v), e, want)
	}
}

func points(r *rand.Rand, n int) []*mathbig.Rat {
	a := make([]*mathbig.Rat, n)
	for v := range a {
		a[v] = rational(r)
	}
	return a
}

// P7.4: values, in any number of variables.
func TestEval(t *testing.T) {
	r := rand.New(rand.NewPCG(7, 7))
	for i := range 1500 {
		n := i % (api.MaxVars + 1)
		holdEval(t, random(r, n, 10, 1+i%6), points(r, n))
	}
	holdEval(t, parse(0, "-12"), nil)
	holdEval(t, api.MPoly{}, nil)
	holdEval(t, api.MPoly{Vars: 2}, points(r, 2))
	holdEval(t, parse(2, "y^2 + x^3y + x^5"), []*mathbig.Rat{mathbig.NewRat(1, 2), mathbig.NewRat(-1, 3)})
	holdEval(t, parse(2, "x^1024 - y^1024 + x^513y^700 - 1"), []*mathbig.Rat{mathbig.NewRat(-3, 5), mathbig.NewRat(7, 4)})
	holdEval(t, parse(3, "x^1024y^1024z^1024 + x"), []*mathbig.Rat{mathbig.NewRat(2, 3), mathbig.NewRat(3, 2), mathbig.NewRat(-1, 1)})
	holdEval(t, grid(2, 64, 64, wave(3, 2)), []*mathbig.Rat{mathbig.NewRat(-5, 3), mathbig.NewRat(1, 7)})
}

// P7.4: too few numbers, too many, or what is none.
func TestEvalRefuses(t *testing.T) {
	one := api.Rat{Num: big.From(1), Den: api.Nat{1}}
	for n := range api.MaxVars + 1 {
		for m := range api.MaxVars + 3 {
			a := make([]api.Rat, m)
			for i := range a {
				a[i] = one
			}
			want := api.ErrMPolyArgs
			if m == n {
				want = api.OK
			}
			if v, e := mpoly.Eval(api.MPoly{Vars: n}, a); e != want || e != api.OK && v.Den != nil {
				t.Errorf("%d numbers for %d: %v, %d", m, n, v, e)
			}
		}
	}
	for _, a := range noRationals() {
		for _, l := range [][]api.Rat{{a, one, one}, {one, a, one}, {one, one, a}} {
			if v, e := mpoly.Eval(parse(3, "1"), l); e != api.ErrMPolyArgs || v.Den != nil || v.Num.Mag != nil {
				t.Errorf("%v: %v, %d", a, v, e)
			}
		}
	}
}

// putIn is Put by the words of the chapter.
func putIn(p api.MPoly, v int, a *mathbig.Rat) api.MPoly {
	m, d := model{}, 0
	for k := range taken(p) {
		d = max(d, k[v])
	}
	for k, c := range taken(p) {
		e := k[v]
		k[v] = 0
		x := new(mathbig.Int).Exp(a.Num(), mathbig.NewInt(int64(e)), nil)
		y := new(mathbig.Int).Exp(a.Denom(), mathbig.NewInt(int64(d-e)), nil)
		m.add(k, c.Mul(c, x.Mul(x, y)))
	}
	return m.made(p.Vars)
}

// P7.4: a number for a variable; the other variables stay, and so does how many there are.
func TestPut(t *testing.T) {
	r := rand.New(rand.NewPCG(7, 8))
	for i := range 1500 {
		n := 1 + i%api.MaxVars
		p, v, a := random(r, n, 10, 1+i%5), r.IntN(n), rational(r)
		held(t, "Put"+show(p), putIn(p, v, a))(mpoly.Put(p, v, ratIn(a)))
	}
	for _, c := range []struct {
		p    string
		v    int
		a    string
		want string
	}{
		{"", 0, "1/2", ""}, {"5", 1, "1/3", "5"}, {"y - 4", 0, "7/9", "y - 4"}, {"x - y", 0, "0", "-y"}, {"x^2 - y", 0, "1/2", "1 - 4y"}, {"x^2 - 2xy + y^2", 1, "-2/3", "9x^2 + 12x + 4"},
		{"x^2 - 4", 0, "2", ""}, {"xy - 3y", 0, "3", ""}, {"x^3y + x^3 - 27y", 0, "3", "27"}, {"x^1024 + y", 0, "-1", "y + 1"}, {"y^1024", 1, "0", ""}, {"x^1000y - x", 0, "1", "y - 1"},
	} {
		a, e := rat.Parse(c.a)
		if e != api.OK {
			t.Fatal(c.a)
		}
		held(t, "Put "+c.p, parse(2, c.want))(mpoly.Put(parse(2, c.p), c.v, a))
	}
}

// P7.4: what is no rational is refused behind a variable that is none, whatever the polynomial.
func TestPutRefuses(t *testing.T) {
	for _, a := range noRationals() {
		for _, p := range []api.MPoly{{Vars: 2}, parse(2, "1"), parse(2, "x - y")} {
			refused(t, "Put", api.ErrMPolyArgs)(mpoly.Put(p, 0, a))
			refused(t, "Put", api.ErrMPolyArgs)(mpoly.Put(p, 1, a))
			refused(t, "Put", api.ErrMPolyVars)(mpoly.Put(p, 2, a))
			refused(t, "Put", api.ErrMPolyVars)(mpoly.Put(p, -1, a))
		}
	}
}

// P7.5: Eval keeps sums and products; put in one after the other, numbers make the value.
func TestEvalLaws(t *testing.T) {
	r := rand.New(rand.NewPCG(7, 9))
	for i := range 400 {
		n := i % (api.MaxVars + 1)
		p, q, a := random(r, n, 6, 3), random(r, n, 6, 3), points(r, n)
		var point []api.Rat
		for _, x := range a {
			point = append(point, ratIn(x))
		}
		eval := func(p api.MPoly) *mathbig.Rat {
			v, e := mpoly.Eval(p, point)
			if e != api.OK {
				t.Fatalf("%s: %d", show(p), e)
			}
			return ratOut(v)
		}
		sum, _ := mpoly.Add(p, q)
		product, _ := mpoly.Mul(p, q)
		x, y := eval(p), eval(q)
		if eval(sum).Cmp(new(mathbig.Rat).Add(x, y)) != 0 || eval(product).Cmp(new(mathbig.Rat).Mul(x, y)) != 0 {
			t.Fatalf("%s and%s at %v", show(p), show(q), a)
		}
		left, scale := p, new(mathbig.Rat).SetInt64(1)
		for v := range n {
			if d, _ := mpoly.Deg(left, v); d > 0 {
				scale.Mul(scale, raised(new(mathbig.Rat).SetInt(a[v].Denom()), d))
			}
			left, _ = mpoly.Put(left, v, point[v])
		}
		if eval(left).Cmp(scale.Mul(scale, x)) != 0 && len(left.Terms) > 0 {
			t.Fatalf("%s put in at %v:%s", show(p), a, show(left))
		}
	}
}

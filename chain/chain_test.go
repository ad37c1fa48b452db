package chain_test

import (
	"math"
	"math/rand/v2"
	"strconv"
	"testing"

	"terrace/api"
	"terrace/chain"
	"terrace/mpoly"
)

// The chapter's examples.
func TestExamples(t *testing.T) {
	held(t, "Res", parse(1, "-1"))(chain.Res(parse(1, "x^2 - 2"), parse(1, "x - 1"), 0))
	held(t, "Disc", parse(4, "y^2 - 4xz"))(chain.Disc(parse(4, "xw^2 + yw + z"), 3))
	held(t, "Sub", parse(1, "-x + 1"))(chain.Sub(parse(1, "x^2 - 1"), parse(1, "x^2 - x"), 0, 1))
}

// degrees tells each j that may be asked for.
func degrees(a, b api.MPoly, v int) []int {
	m, n := deg(a, v), deg(b, v)
	var list []int
	for j := range min(m, n) {
		list = append(list, j)
	}
	if m != n {
		list = append(list, min(m, n))
	}
	return list
}

// P9.1, P9.2: each determinant of small matrices, in one variable up to three, by each of them.
func TestPlain(t *testing.T) {
	r := rand.New(rand.NewPCG(9, 1))
	for i := range 4000 {
		vars := 1 + i%3
		v, most, size := r.IntN(vars), 1+i%4, []int64{1, 3, math.MaxInt64 / 2}[r.IntN(3)]
		a, b := random(r, vars, 1+r.IntN(5), most, size), random(r, vars, 1+r.IntN(5), most, size)
		if len(a.Terms) == 0 || len(b.Terms) == 0 {
			continue
		}
		what := " of" + show(a) + " and" + show(b) + " by " + strconv.Itoa(v)
		for _, j := range degrees(a, b, v) {
			held(t, "Psc "+strconv.Itoa(j)+what, plainPsc(a, b, v, j))(chain.Psc(a, b, v, j))
			held(t, "Sub "+strconv.Itoa(j)+what, plainSub(a, b, v, j))(chain.Sub(a, b, v, j))
		}
		if deg(a, v) > 0 || deg(b, v) > 0 {
			held(t, "Res"+what, plainPsc(a, b, v, 0))(chain.Res(a, b, v))
		}
		holdDisc(t, a, v)
	}
}

// holdDisc holds a discriminant against the words of the chapter.
func holdDisc(t *testing.T, p api.MPoly, v int) {
	t.Helper()
	m := deg(p, v)
	if m < 1 {
		refused(t, "Disc"+show(p), api.ErrChainDeg)(chain.Disc(p, v))
		return
	}
	d, e := chain.Disc(p, v)
	if e != api.OK || mpoly.Check(d) != api.OK {
		t.Fatalf("Disc%s: %d", show(p), e)
	}
	held(t, "lead times Disc"+show(p), turned(plainPsc(p, derived(p, v), v, 0), m*(m-1)/2))(mpoly.Mul(lead(p, v), d))
}

// P9.1: rows of one of both alone, of which the matrix has as many as the degrees differ by.
func TestRowsOfOne(t *testing.T) {
	for _, c := range []struct {
		a, b string
		j    int
		psc  string
		sub  string
	}{
		{"4x^3 + 3x^2 + 2x + 1", "6x + 5", 1, "36", "36x + 30"}, {"6x + 5", "4x^3 + 3x^2 + 2x + 1", 1, "36", "36x + 30"}, {"x^2", "7x - 3", 1, "7", "7x - 3"}, {"7x - 3", "x^2", 1, "7", "7x - 3"},
		{"5", "3x^2 + 2x + 1", 0, "25", "25"}, {"3x^2 + 2x + 1", "-5", 0, "25", "25"}, {"-5", "x^3", 0, "-125", "-125"}, {"x", "-5", 0, "-5", "-5"}, {"-5", "x", 0, "-5", "-5"},
		{"yx^2 + x", "3x^6", 2, "y^4", "y^4x^2 + y^3x"}, {"x^4 + 1", "(y - 1)x^2 + yx", 2, "(y - 1)^2", "(y - 1)^2x^2 + (y - 1)yx"}, {"y - 3", "x^2 + y", 0, "(y - 3)^2", "(y - 3)^2"},
	} {
		a, b := parse(2, c.a), parse(2, c.b)
		held(t, "Psc "+c.a+", "+c.b, parse(2, c.psc))(chain.Psc(a, b, 0, c.j))
		held(t, "Sub "+c.a+", "+c.b, parse(2, c.sub))(chain.Sub(a, b, 0, c.j))
	}
	high := add(lone(2, 1, 1024), number(2, 1))
	held(t, "the longest power", raised(parse(2, "x + 1"), 1024))(chain.Res(parse(2, "x + 1"), high, 1))
	held(t, "the longest power", lone(2, 0, 1024))(chain.Psc(parse(2, "x"), high, 1, 0))
}

// P9.2: discriminants that are known.
func TestDisc(t *testing.T) {
	for _, c := range []struct {
		vars int
		p    string
		v    int
		want string
	}{
		{1, "7x + 1", 0, "1"}, {2, "yx - 3", 0, "1"}, {1, "x^2", 0, "0"}, {1, "3x^2", 0, "0"}, {1, "x^2 - 2x + 1", 0, "0"}, {1, "x^3 - x - 1", 0, "-23"}, {1, "2x^2 + 3x - 1", 0, "17"}, {1, "-x^2 - 1", 0, "-4"},
		{5, "xt^3 + yt^2 + zt + w", 4, "y^2z^2 - 4xz^3 - 4y^3w - 27x^2w^2 + 18xyzw"}, {3, "z^3 + xz + y", 2, "-4x^3 - 27y^2"}, {3, "xz^2 - y", 2, "4xy"}, {3, "z^4 + xz + y", 2, "256y^3 - 27x^4"},
		{3, "(z - x)(z - y)(z - 2)", 2, "(x - y)^2(x - 2)^2(y - 2)^2"}, {3, "(x - 3)(z^2 - y)", 2, "4(x - 3)^2y"}, {2, "(y - x)^2(y + 7)", 1, "0"}, {2, "y^2 - x^3", 0, "-27y^4"}, {1, "x^6 - 1", 0, "46656"}, {1, "x^5", 0, "0"},
	} {
		held(t, "Disc "+c.p, parse(c.vars, c.want))(chain.Disc(parse(c.vars, c.p), c.v))
	}
}

// P9.2: a resultant is a value of one polynomial at the other one's root, or a product of differences of roots.
func TestRes(t *testing.T) {
	r := rand.New(rand.NewPCG(9, 2))
	for range 200 {
		root, b := random(r, 3, 4, 2, 9), random(r, 3, 6, 3, 9)
		root = must(mpoly.Of([]api.MPoly{coefs(add(root, number(3, 1)), 2)[0]}, 2)) // without z
		if len(b.Terms) == 0 {
			continue
		}
		value := api.MPoly{Vars: 3}
		for e, c := range coefs(b, 2) {
			value = add(value, mul(c, raised(root, e)))
		}
		held(t, "Res", value)(chain.Res(add(lone(3, 2, 1), neg(root)), b, 2))
	}
	held(t, "Res", parse(5, "(x - z)(x - w)(y - z)(y - w)"))(chain.Res(parse(5, "(t - x)(t - y)"), parse(5, "(t - z)(t - w)"), 4))
	held(t, "Res", parse(3, "9(x - y)(x + y)"))(chain.Res(parse(3, "3(z - x)"), parse(3, "(z - y)(z + y)"), 2))
	held(t, "Res", parse(2, "2x^2 - 4x + 3"))(chain.Res(parse(2, "x^2 + y^2 - 1"), parse(2, "x + y - 2"), 1))
}

// P9.1, P9.2: polynomials that are 0, and degrees that may not be.
func TestDegrees(t *testing.T) {
	zero, five := api.MPoly{Vars: 2}, parse(2, "5")
	line, square, cube := parse(2, "xy + 1"), parse(2, "x^2y - 3"), parse(2, "x^3 + y")
	deg := api.ErrChainDeg
	for _, c := range []struct {
		a, b api.MPoly
		j    int
		want api.Errno
	}{
		{zero, zero, 0, deg}, {zero, line, 0, deg}, {line, zero, 0, deg}, {zero, five, 0, deg}, {zero, line, -1, deg}, {five, five, 0, deg}, {five, five, -1, deg}, {five, five, 1, deg}, {five, line, 0, api.OK}, {five, line, 1, deg},
		{line, line, 0, api.OK}, {line, line, 1, deg}, {line, square, 1, api.OK}, {square, line, 1, api.OK}, {line, square, 2, deg}, {square, cube, 2, api.OK}, {square, cube, 3, deg}, {cube, cube, 2, api.OK}, {cube, cube, 3, deg},
		{cube, cube, -1, deg}, {square, cube, -1, deg}, {line, cube, math.MaxInt, deg}, {line, cube, math.MinInt, deg}, {line, cube, math.MaxInt32 + 1, deg},
	} {
		for _, f := range []func(a, b api.MPoly, v, j int) (api.MPoly, api.Errno){chain.Psc, chain.Sub} {
			if p, e := f(c.a, c.b, 0, c.j); e != c.want || e != api.OK && (p.Vars != 0 || p.Terms != nil) {
				t.Errorf("%d of%s and%s: %d, want %d", c.j, show(c.a), show(c.b), e, c.want)
			}
		}
		if c.j == 0 {
			if p, e := chain.Res(c.a, c.b, 0); e != c.want || e != api.OK && (p.Vars != 0 || p.Terms != nil) {
				t.Errorf("Res of%s and%s: %d, want %d", show(c.a), show(c.b), e, c.want)
			}
		}
	}
	for _, p := range []api.MPoly{zero, five, parse(2, "y^3 - 1")} {
		refused(t, "Disc"+show(p), deg)(chain.Disc(p, 0))
	}
}

// asked tells what each call tells of a, b, v and j; Disc is asked of each of both.
func asked(a, b api.MPoly, v, j int) map[string]api.Errno {
	told := map[string]api.Errno{}
	keep := func(name string) func(api.MPoly, api.Errno) {
		return func(p api.MPoly, e api.Errno) {
			told[name] = e
			if e != api.OK && (p.Vars != 0 || p.Terms != nil) {
				panic(name + " tells more than an error")
			}
		}
	}
	keep("Psc")(chain.Psc(a, b, v, j))
	keep("Sub")(chain.Sub(a, b, v, j))
	keep("Res")(chain.Res(a, b, v))
	keep("Disc a")(chain.Disc(a, v))
	keep("Disc b")(chain.Disc(b, v))
	return told
}

// 7: what is no polynomial is told first, then unlike variables or a variable that is none, then degrees.
func TestOrderOfErrors(t *testing.T) {
	good, zero, other := parse(2, "x^2 - y"), api.MPoly{Vars: 2}, parse(3, "x + z")
	form, vars, deg := api.ErrMPolyForm, api.ErrMPolyVars, api.ErrChainDeg
	for _, bad := range none() {
		for _, p := range []api.MPoly{good, zero, other, bad} {
			for _, v := range []int{-1, 0, 1, 2, 9} {
				for _, j := range []int{-1, 0, 1, 5} {
					for name, e := range asked(bad, p, v, j) {
						if name != "Disc b" && e != form {
							t.Errorf("%s of no polynomial, by %d, %d: %d", name, v, j, e)
						}
					}
					for name, e := range asked(p, bad, v, j) {
						if name != "Disc a" && e != form {
							t.Errorf("%s with no polynomial, by %d, %d: %d", name, v, j, e)
						}
					}
				}
			}
		}
	}
	for _, v := range []int{-1, 2, 8, math.MaxInt, math.MinInt} {
		for _, p := range []api.MPoly{good, zero, parse(2, "3")} {
			for _, j := range []int{-1, 0, 1, 5} {
				for name, e := range asked(p, good, v, j) {
					if e != vars {
						t.Errorf("%s by %d: %d", name, v, e)
					}
				}
			}
		}
	}
	for _, c := range [][2]api.MPoly{{good, other}, {other, good}, {zero, other}, {other, zero}, {parse(0, "1"), good}, {good, parse(8, "s")}} {
		for name, e := range asked(c[0], c[1], 0, -1) {
			if name[0] != 'D' && e != vars {
				t.Errorf("%s of%s and%s: %d", name, show(c[0]), show(c[1]), e)
			}
		}
	}
	for name, e := range asked(parse(0, "1"), parse(0, "2"), 0, 0) {
		if e != vars {
			t.Errorf("%s without variables: %d", name, e)
		}
	}
	for name, e := range asked(zero, zero, 1, 0) {
		if e != deg {
			t.Errorf("%s of 0: %d", name, e)
		}
	}
}

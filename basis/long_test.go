package basis_test

import (
	"testing"

	"terrace/api"
	"terrace/mpoly"
)

// differ makes a^n - b^n.
func differ(a, b api.MPoly, n int) api.MPoly { return add(raised(a, n), neg(raised(b, n))) }

func divisors(n int) []int {
	var list []int
	for d := 1; d <= n; d++ {
		if n%d == 0 {
			list = append(list, d)
		}
	}
	return list
}

// cyclotomic tells the coefficients of the d-th cyclotomic polynomial, the lowest first.
func cyclotomic(d int) []int64 {
	p := make([]int64, d+1)
	p[0], p[d] = -1, 1
	for _, e := range divisors(d) {
		if e == d {
			break
		}
		q := cyclotomic(e)
		last := len(q) - 1
		for i := len(p) - 1; i >= last; i-- {
			for j := range last {
				p[i-last+j] -= p[i] * q[j]
			}
		}
		p = p[last:]
	}
	return p
}

// cyclic makes the d-th cyclotomic polynomial of a over b, without a denominator: differ's of n are their products, of
// all d that divide n.
func cyclic(d int, a, b api.MPoly) api.MPoly {
	list := cyclotomic(d)
	p := number(a.Vars, 0)
	for i, c := range list {
		if c != 0 {
			p = add(p, mul(number(a.Vars, c), raised(a, i), raised(b, len(list)-1-i)))
		}
	}
	return p
}

// family makes a^d - b^d for all divisors d of n.
func family(vars, n int, a, b string) []api.MPoly {
	var l []api.MPoly
	for _, d := range divisors(n) {
		l = append(l, differ(parse(vars, a), parse(vars, b), d))
	}
	return l
}

// told makes what is to be told of a factor: its lead positive.
func told(p api.MPoly) api.MPoly { return must(mpoly.Prim(p)) }

// P10.1: what is told is short, though the quotients by the way are not: (a^120 - b^120) / (a - b) has 300000 terms.
func TestShortClasses(t *testing.T) {
	for _, c := range []struct {
		vars, n, v int
		a, b       string
	}{
		{4, 60, 0, "x + y", "z + w"}, {4, 120, 2, "x + y", "z + w"}, {4, 60, 0, "x + y", "z - 2w"}, {4, 60, 1, "3x + y", "z - 2yw"}, {4, 36, 3, "xyw + 1", "wz^2 - y"}, {5, 24, 4, "x + y + z", "2w + t"}, {4, 30, 0, "18446744073709551629x - y", "340282366920938463463374607431768211507z + w"},
	} {
		var want []api.MPoly
		for _, d := range divisors(c.n) {
			want = append(want, told(cyclic(d, parse(c.vars, c.a), parse(c.vars, c.b))))
		}
		held(t, c.a+" and "+c.b, family(c.vars, c.n, c.a, c.b), c.v, want)
	}
}

// P10.1: what does not count may be what keeps a polynomial short: here a - b, in which v does not stand.
func TestLongParts(t *testing.T) {
	for v, c := range [][2]string{{"x + y", "x + z"}, {"y + x", "y - 2z"}, {"3z + x^2", "3z + y"}} {
		a, b := parse(3, c[0]), parse(3, c[1])
		refused(t, "long part", []api.MPoly{differ(a, b, 98)}, v, api.ErrMPolyForm)
		seven, thirteen := told(cyclic(7, a, b)), told(cyclic(13, a, b))
		if v < 2 {
			held(t, "short parts", []api.MPoly{differ(a, b, 91), differ(a, b, 7)}, v, []api.MPoly{seven, told(mul(cyclic(13, a, b), cyclic(91, a, b)))})
			held(t, "more of them", []api.MPoly{differ(a, b, 13), differ(a, b, 91), differ(a, b, 7)}, v, []api.MPoly{seven, thirteen, told(cyclic(91, a, b))})
		}
		held(t, "squares", []api.MPoly{mul(differ(a, b, 13), differ(a, b, 13)), mul(differ(a, b, 7), differ(a, b, 13))}, v, []api.MPoly{seven, thirteen})
	}
}

// strands makes the product of all (x u)^n - 1, u being each variable but x, n each of some exponents.
func strands(vars int, exps ...int) api.MPoly {
	p := number(vars, 1)
	for u := 1; u < vars; u++ {
		for _, n := range exps {
			p = mul(p, add(raised(mul(lone(vars, 0, 1), lone(vars, u, 1)), n), number(vars, -1)))
		}
	}
	return p
}

// row makes 1 + p + .. + p^(n - 1).
func row(p api.MPoly, n int) api.MPoly {
	out := number(p.Vars, 0)
	for i := range n {
		out = add(out, raised(p, i))
	}
	return out
}

// P10.1: ErrMPolyForm just if a class has more than MaxTerms terms.
func TestLimit(t *testing.T) {
	one, u, w := number(3, 1), parse(3, "xy"), parse(3, "xz")
	both := parse(3, "(xy - 1)(xz - 1)")
	list := func(m, n int) []api.MPoly {
		return []api.MPoly{mul(differ(u, one, m), differ(w, one, n)), both}
	}
	held(t, "just short enough", list(64, 64), 0, []api.MPoly{both, mul(row(u, 64), row(w, 64))})
	refused(t, "too long", list(64, 65), 0, api.ErrMPolyForm)
	refused(t, "too long", list(65, 64), 0, api.ErrMPolyForm)
	refused(t, "far too long", list(500, 500), 0, api.ErrMPolyForm)
	held(t, "parted", append(list(500, 500), differ(u, one, 500)), 0, []api.MPoly{parse(3, "xy - 1"), parse(3, "xz - 1"), row(u, 500), row(w, 500)})
	held(t, "by another variable", list(500, 500), 1, []api.MPoly{parse(3, "xy - 1"), row(u, 500)})
}

// P10.1: likewise, where all that is left of two polynomials is long, till others part it.
func TestStrands(t *testing.T) {
	one := number(4, 1)
	l := []api.MPoly{strands(4, 330), strands(4, 10, 33)}
	refused(t, "two", l, 0, api.ErrMPolyForm)
	var want []api.MPoly
	for v := 1; v < 4; v++ {
		u := mul(lone(4, 0, 1), lone(4, v, 1))
		l = append(l, differ(u, one, 10), differ(u, one, 33), differ(u, one, 1))
		want = append(want, differ(u, one, 1), row(u, 10), row(u, 33))
	}
	refused(t, "and their parts", l, 0, api.ErrMPolyForm)
	for v := 1; v < 4; v++ {
		rest := one
		for _, d := range divisors(330) {
			if 10%d > 0 && 33%d > 0 {
				rest = mul(rest, cyclic(d, mul(lone(4, 0, 1), lone(4, v, 1)), one))
			}
		}
		want = append(want, rest)
		if v < 3 {
			l = append(l, differ(mul(lone(4, 0, 1), lone(4, v, 1)), one, 330))
		}
	}
	held(t, "and all of them but one", l, 0, want)
}

// R1: what would have very many terms, were it written out, is refused as soon as what has a few too many.
func TestFarTooLong(t *testing.T) {
	a, b := parse(4, "x + y"), parse(4, "z + w")
	for _, n := range []int{40, 255, 1024} {
		refused(t, "far too long", []api.MPoly{differ(a, b, n), differ(a, b, 1)}, 0, api.ErrMPolyForm)
	}
	refused(t, "in two", []api.MPoly{differ(a, b, 255), mul(differ(a, b, 15), differ(a, b, 17))}, 0, api.ErrMPolyForm)
	other := add(a, mul(number(4, 3), b))
	refused(t, "in common", []api.MPoly{differ(a, b, 210), mul(cyclic(30, a, b), other)}, 0, api.ErrMPolyForm)
	var want []api.MPoly
	for _, d := range divisors(60) {
		want = append(want, told(cyclic(d, a, b)))
	}
	held(t, "in common, and parted", append(family(4, 60, "x + y", "z + w"), mul(cyclic(60, a, b), other)), 0, append(want, told(other)))
	held(t, "alone", []api.MPoly{differ(a, b, 1024)}, 0, []api.MPoly{told(differ(a, b, 1024))})
	held(t, "by a long one", []api.MPoly{differ(a, b, 30), differ(a, b, 20)}, 0, []api.MPoly{told(differ(a, b, 10)), add(raised(a, 10), raised(b, 10)), add(raised(a, 20), mul(raised(a, 10), raised(b, 10)), raised(b, 20))})
}

package basis_test

import (
	"math/rand/v2"
	"slices"
	"testing"

	"terrace/api"
	"terrace/basis"
	"terrace/mpoly"
)

// pair is two polynomials a and b: a^n - b^n is the product of cyclic(d, a, b), of all d that divide n.
type pair struct{ a, b api.MPoly }

func pairs(vars int, texts ...string) []pair {
	var list []pair
	for i := 0; i < len(texts); i += 2 {
		list = append(list, pair{parse(vars, texts[i]), parse(vars, texts[i+1])})
	}
	return list
}

// often tells for each pair how often each cyclic factor stands in a product; the first index is the pair's.
type often [][]int

// form makes the product of cyclic factors, unless it is too long: no terms of different powers are alike.
func form(list []pair, n often) (api.MPoly, bool) {
	out := number(list[0].a.Vars, 1)
	for k, x := range list {
		c := []int64{1}
		for d, times := range n[k] {
			for range times {
				c = product(c, cyclotomic(d))
			}
		}
		p := number(out.Vars, 0)
		for i, m := range c {
			if m == 0 {
				continue
			}
			q, e := power(x.a, i)
			r, f := power(x.b, len(c)-1-i)
			if e != api.OK || f != api.OK {
				return out, false
			}
			if q, e = mpoly.Mul(q, mul(r, number(out.Vars, m))); e != api.OK {
				return out, false
			}
			if p, e = mpoly.Add(p, q); e != api.OK {
				return out, false
			}
		}
		q, e := mpoly.Mul(out, p)
		if e != api.OK {
			return out, false
		}
		out = q
	}
	return out, true
}

func product(a, b []int64) []int64 {
	out := make([]int64, len(a)+len(b)-1)
	for i, m := range a {
		for j, n := range b {
			out[i+j] += m * n
		}
	}
	return out
}

func power(p api.MPoly, n int) (api.MPoly, api.Errno) {
	out := number(p.Vars, 1)
	for range n {
		q, e := mpoly.Mul(out, p)
		if e != api.OK {
			return q, e
		}
		out = q
	}
	return out, api.OK
}

// randomOften is a product of few a^d - b^d, a^d + b^d and cyclic factors, d dividing n.
func randomOften(r *rand.Rand, pairs, n int) often {
	out := make(often, pairs)
	all := divisors(n)
	for k := range out {
		out[k] = make([]int, 2*n+1)
		for range r.IntN(3) {
			d := all[r.IntN(len(all))]
			kind := r.IntN(4)
			for e := range out[k] {
				switch {
				case e == 0:
				case kind < 2 && d%e == 0, kind == 2 && 2*d%e == 0 && d%e != 0, kind == 3 && e == d:
					out[k][e]++
				}
			}
		}
	}
	return out
}

// classForms tells the products of alike factors, unless one is too long; v has to stand in them.
func classForms(list []pair, l []often, v int) ([]api.MPoly, bool) {
	var known [][]int
	var members []often
	for k := range list {
		for d := range l[0][k] {
			var key []int
			for _, n := range l {
				key = append(key, n[k][d])
			}
			if slices.Max(key) == 0 || deg(list[k].a, v) <= 0 && deg(list[k].b, v) <= 0 {
				continue
			}
			i := slices.IndexFunc(known, func(x []int) bool { return slices.Equal(x, key) })
			if i < 0 {
				i = len(known)
				none := make(often, len(list))
				for j := range none {
					none[j] = make([]int, len(l[0][j]))
				}
				known, members = append(known, key), append(members, none)
			}
			members[i][k][d] = 1
		}
	}
	var want []api.MPoly
	for _, m := range members {
		p, ok := form(list, m)
		if !ok {
			return nil, false
		}
		want = append(want, told(p))
	}
	return want, true
}

// P10.1: products of factors whose products are short, and whose quotients are not: what is told is their classes, or
// ErrMPolyForm, just if one of them is too long.
func TestForms(t *testing.T) {
	r := rand.New(rand.NewPCG(10, 7))
	sets := [][]pair{
		pairs(4, "x + y", "z + w"), pairs(4, "x + 3y", "z - w"), pairs(4, "xy + 1", "zw - 2z"), pairs(5, "x + y + t", "zw + 1"), pairs(6, "xy - t", "z + wu"), pairs(4, "x^2 + y", "z^3 - w"),
		pairs(3, "xy", "1", "xz^2", "1"), pairs(4, "xy", "1", "xz", "1", "x^2w", "1"), pairs(4, "xy", "z", "xw^3", "2"), pairs(5, "x + y", "z", "wt^2", "1"),
	}
	told, refusals := 0, 0
	for told+refusals < 400 {
		set := sets[r.IntN(len(sets))]
		n := []int{6, 12, 20, 24, 30, 36, 60, 90}[r.IntN(8)]
		var l []api.MPoly
		var all []often
		for range 1 + r.IntN(4) {
			how := randomOften(r, len(set), n)
			if p, ok := form(set, how); ok {
				l, all = append(l, p), append(all, how)
			}
		}
		if len(l) == 0 {
			continue
		}
		v := r.IntN(l[0].Vars)
		want, ok := classForms(set, all, v)
		if !ok {
			refused(t, "forms", l, v, api.ErrMPolyForm)
			refusals++
			continue
		}
		held(t, "forms", l, v, want)
		told++
	}
	if refusals == 0 {
		t.Error("nothing was refused")
	}
}

// P10.2: what was told of such products stays as it is, and so it is by other products of the same factors.
func TestFormsAgain(t *testing.T) {
	for n, l := range [][]api.MPoly{family(4, 24, "x + y", "z + w"), family(3, 60, "xy", "z + 1")} {
		got, e := basis.Make(l, 0)
		if e != api.OK {
			t.Fatalf("%d: error %d", n, e)
		}
		held(t, "made again", got, 0, got)
		held(t, "and what it was made of", slices.Concat(l, got), 0, got)
	}
}

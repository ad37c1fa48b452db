package basis_test

import (
	"math/rand/v2"
	"slices"
	"strconv"
	"strings"
	"testing"

	"terrace/api"
	"terrace/basis"
	"terrace/big"
	"terrace/mpoly"
)

// names are the variables, the first one first.
const names = "xyzwtuvs"

// reader goes over a text: sums, products without a sign between the factors, powers, brackets.
type reader struct {
	vars int
	text string
}

// parse reads a polynomial in n variables: "3(x - y)^2(x + 1) - 7".
func parse(n int, text string) api.MPoly {
	r := &reader{n, strings.ReplaceAll(text, " ", "")}
	p := r.sum()
	if r.text != "" {
		panic("what is " + r.text)
	}
	return p
}

// parseAll reads some.
func parseAll(n int, texts ...string) []api.MPoly {
	var list []api.MPoly
	for _, text := range texts {
		list = append(list, parse(n, text))
	}
	return list
}

func (r *reader) ahead(kinds string) bool {
	return r.text != "" && strings.Contains(kinds, r.text[:1])
}

func (r *reader) sum() api.MPoly {
	p := api.MPoly{Vars: r.vars}
	for first := true; first || r.ahead("+-"); first = false {
		minus := r.ahead("-")
		r.text = strings.TrimLeft(r.text, "+-")
		q := number(r.vars, 1)
		for r.ahead("0123456789(" + names) {
			q = mul(q, r.power())
		}
		if minus {
			q = neg(q)
		}
		p = add(p, q)
	}
	return p
}

func (r *reader) power() api.MPoly {
	var p api.MPoly
	switch {
	case r.ahead("("):
		r.text = r.text[1:]
		p = r.sum()
		r.text = r.text[1:]
	case r.ahead(names):
		p = lone(r.vars, strings.Index(names, r.text[:1]), 1)
		r.text = r.text[1:]
	default:
		c, _ := big.Parse(r.digits())
		p = must(mpoly.Const(r.vars, c))
	}
	if !r.ahead("^") {
		return p
	}
	r.text = r.text[1:]
	n, _ := strconv.Atoi(r.digits())
	return raised(p, n)
}

func (r *reader) digits() string {
	n := len(r.text) - len(strings.TrimLeft(r.text, "0123456789"))
	s := r.text[:n]
	r.text = r.text[n:]
	return s
}

// raised tells p to the n.
func raised(p api.MPoly, n int) api.MPoly {
	out := number(p.Vars, 1)
	for ; n > 0; n /= 2 {
		if n%2 == 1 {
			out = mul(out, p)
		}
		if n > 1 {
			p = mul(p, p)
		}
	}
	return out
}

func number(n int, c int64) api.MPoly {
	p, _ := mpoly.Const(n, big.From(c))
	return p
}

// lone makes v to the e in n variables.
func lone(n, v, e int) api.MPoly {
	p := api.MPoly{Vars: n, Terms: []api.Term{{Exps: make([]int, n), Coef: big.From(1)}}}
	p.Terms[0].Exps[v] = e
	return p
}

func must(p api.MPoly, e api.Errno) api.MPoly {
	if e != api.OK {
		panic(e)
	}
	return p
}

func add(l ...api.MPoly) api.MPoly {
	p := l[0]
	for _, q := range l[1:] {
		p = must(mpoly.Add(p, q))
	}
	return p
}

func mul(l ...api.MPoly) api.MPoly {
	p := l[0]
	for _, q := range l[1:] {
		p = must(mpoly.Mul(p, q))
	}
	return p
}

func neg(p api.MPoly) api.MPoly { return must(mpoly.Neg(p)) }

func show(list ...api.MPoly) string {
	var s strings.Builder
	for _, p := range list {
		s.WriteString("\n   ")
		for i, t := range p.Terms {
			if i == 20 {
				s.WriteString(" .. " + strconv.Itoa(len(p.Terms)))
				break
			}
			s.WriteString(" ")
			if !t.Coef.Neg {
				s.WriteString("+")
			}
			s.WriteString(big.Text(t.Coef))
			for v, e := range t.Exps {
				if e > 0 {
					s.WriteString(names[v:v+1] + "^" + strconv.Itoa(e))
				}
			}
		}
	}
	return s.String()
}

func same(p, q api.MPoly) bool {
	return p.Vars == q.Vars && slices.EqualFunc(p.Terms, q.Terms, func(a, b api.Term) bool {
		return slices.Equal(a.Exps, b.Exps) && a.Coef.Neg == b.Coef.Neg && slices.Equal(a.Coef.Mag, b.Coef.Mag)
	})
}

// held asks for the basis of l, which has to be want, in whatever order that stands.
func held(t *testing.T, what string, l []api.MPoly, v int, want []api.MPoly) {
	t.Helper()
	want = slices.Clone(want)
	slices.SortFunc(want, mpoly.Cmp)
	got, e := basis.Make(l, v)
	if e != api.OK || !slices.EqualFunc(got, want, same) {
		t.Fatalf("%s: error %d, of%s\ngot%s\nwant%s", what, e, show(l...), show(got...), show(want...))
	}
	for _, p := range got {
		if mpoly.Check(p) != api.OK {
			t.Fatalf("%s: no polynomial:%s", what, show(p))
		}
	}
}

// refused asks for the basis of l, which has to be an error, and nothing beside it.
func refused(t *testing.T, what string, l []api.MPoly, v int, want api.Errno) {
	t.Helper()
	if got, e := basis.Make(l, v); e != want || got != nil {
		t.Errorf("%s: error %d, want %d:%s", what, e, want, show(got...))
	}
}

// random makes a polynomial in n variables of at most so many terms, such exponents, and such numbers.
func random(r *rand.Rand, n, terms, most int, size int64) api.MPoly {
	p := api.MPoly{Vars: n}
	for range terms {
		t := number(n, r.Int64N(2*size+1)-size)
		for v := range n {
			t = mul(t, lone(n, v, r.IntN(most+1)))
		}
		p = add(p, t)
	}
	return p
}

// long makes a number of limbs, the lowest first.
func long(neg bool, limbs ...uint64) api.Int { return api.Int{Neg: neg, Mag: limbs} }

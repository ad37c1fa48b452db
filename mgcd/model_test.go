package mgcd_test

import (
	"math"
	"math/rand/v2"
	"slices"
	"strconv"
	"strings"
	"testing"

	"terrace/api"
	"terrace/big"
	"terrace/mpoly"
)

// names are the variables, the first one first.
const names = "xyzwtuvs"

// reader goes over a text: sums, products without a sign between the factors, powers, brackets.
type reader struct {
	vars int
	text string
}

// parse reads a polynomial in n variables: "3(x - y)^2(x + 1) - 7".
func parse(n int, text string) api.MPoly {
	r := &reader{n, strings.ReplaceAll(text, " ", "")}
	p := r.sum()
	if r.text != "" {
		panic("what is " + r.text)
	}
	return p
}

func (r *reader) ahead(kinds string) bool {
	return r.text != "" && strings.Contains(kinds, r.text[:1])
}

func (r *reader) sum() api.MPoly {
	p := api.MPoly{Vars: r.vars}
	for first := true; first || r.ahead("+-"); first = false {
		minus := r.ahead("-")
		r.text = strings.TrimLeft(r.text, "+-")
		q := number(r.vars, 1)
		for r.ahead("0123456789(" + names) {
			q = mul(q, r.power())
		}
		if minus {
			q = neg(q)
		}
		p = add(p, q)
	}
	return p
}

func (r *reader) power() api.MPoly {
	var p api.MPoly
	switch {
	case r.ahead("("):
		r.text = r.text[1:]
		p = r.sum()
		r.text = r.text[1:]
	case r.ahead(names):
		p = lone(r.vars, strings.Index(names, r.text[:1]), 1)
		r.text = r.text[1:]
	default:
		p = constant(r.vars, r.digits())
	}
	if !r.ahead("^") {
		return p
	}
	r.text = r.text[1:]
	n, _ := strconv.Atoi(r.digits())
	if len(p.Terms) == 1 && len(p.Terms[0].Coef.Mag) == 1 && p.Terms[0].Coef.Mag[0] == 1 {
		return raised(p, n)
	}
	q := number(r.vars, 1)
	for range n {
		q = mul(q, p)
	}
	return q
}

func (r *reader) digits() string {
	n := len(r.text) - len(strings.TrimLeft(r.text, "0123456789"))
	s := r.text[:n]
	r.text = r.text[n:]
	return s
}

// raised tells a single term to the n.
func raised(p api.MPoly, n int) api.MPoly {
	q := api.MPoly{Vars: p.Vars, Terms: []api.Term{{Exps: make([]int, p.Vars), Coef: p.Terms[0].Coef}}}
	for v, e := range p.Terms[0].Exps {
		q.Terms[0].Exps[v] = n * e
	}
	return q
}

func constant(n int, digits string) api.MPoly {
	c, _ := big.Parse(digits)
	p, _ := mpoly.Const(n, c)
	return p
}

func number(n int, c int64) api.MPoly {
	p, _ := mpoly.Const(n, big.From(c))
	return p
}

// lone makes v to the e in n variables.
func lone(n, v, e int) api.MPoly {
	p := api.MPoly{Vars: n, Terms: []api.Term{{Exps: make([]int, n), Coef: big.From(1)}}}
	p.Terms[0].Exps[v] = e
	return p
}

func must(p api.MPoly, e api.Errno) api.MPoly {
	if e != api.OK {
		panic(e)
	}
	return p
}

func add(l ...api.MPoly) api.MPoly {
	p := l[0]
	for _, q := range l[1:] {
		p = must(mpoly.Add(p, q))
	}
	return p
}

func mul(l ...api.MPoly) api.MPoly {
	p := l[0]
	for _, q := range l[1:] {
		p = must(mpoly.Mul(p, q))
	}
	return p
}

func neg(p api.MPoly) api.MPoly { return must(mpoly.Neg(p)) }

// positive tells p or its opposite.
func positive(p api.MPoly) api.MPoly {
	if len(p.Terms) > 0 && p.Terms[0].Coef.Neg {
		return neg(p)
	}
	return p
}

func show(p api.MPoly) string {
	var s strings.Builder
	for i, t := range p.Terms {
		if i == 20 {
			s.WriteString(" .. " + strconv.Itoa(len(p.Terms)))
			break
		}
		s.WriteString(" ")
		if !t.Coef.Neg {
			s.WriteString("+")
		}
		s.WriteString(big.Text(t.Coef))
		for v, e := range t.Exps {
			if e > 0 {
				s.WriteString(names[v:v+1] + "^" + strconv.Itoa(e))
			}
		}
	}
	return s.String()
}

func same(p, q api.MPoly) bool {
	return p.Vars == q.Vars && slices.EqualFunc(p.Terms, q.Terms, func(a, b api.Term) bool {
		return slices.Equal(a.Exps, b.Exps) && a.Coef.Neg == b.Coef.Neg && slices.Equal(a.Coef.Mag, b.Coef.Mag)
	})
}

// held takes an answer that has to be want.
func held(t *testing.T, what string, want api.MPoly) func(api.MPoly, api.Errno) {
	t.Helper()
	return func(got api.MPoly, e api.Errno) {
		t.Helper()
		if e != api.OK || !same(got, want) || mpoly.Check(got) != api.OK {
			t.Fatalf("%s: %d\n got%s in %d\nwant%s in %d", what, e, show(got), got.Vars, show(want), want.Vars)
		}
	}
}

// refused takes an answer that has to be an error, and nothing beside it.
func refused(t *testing.T, what string, want api.Errno) func(api.MPoly, api.Errno) {
	t.Helper()
	return func(got api.MPoly, e api.Errno) {
		t.Helper()
		if e != want || got.Vars != 0 || got.Terms != nil {
			t.Errorf("%s:%s, %d, want %d", what, show(got), e, want)
		}
	}
}

// plainExact divides term by term.
func plainExact(a, b api.MPoly) (q api.MPoly, ok bool) {
	for q.Vars = a.Vars; len(a.Terms) > 0; {
		t, u := a.Terms[0], b.Terms[0]
		c, left, _ := big.Divide(t.Coef, u.Coef)
		step := api.MPoly{Vars: a.Vars, Terms: []api.Term{{Exps: make([]int, a.Vars), Coef: c}}}
		for v := range step.Terms[0].Exps {
			step.Terms[0].Exps[v] = t.Exps[v] - u.Exps[v]
		}
		if big.Sign(left) != 0 || mpoly.Check(step) != api.OK {
			return api.MPoly{}, false
		}
		q, a = add(q, step), add(a, neg(mul(step, b)))
	}
	return q, true
}

func plainContent(p api.MPoly, v int) api.MPoly {
	l, _ := mpoly.Coefs(p, v)
	c := api.MPoly{Vars: p.Vars}
	for _, q := range l {
		c = plainGcd(c, q)
	}
	return c
}

func plainPart(p api.MPoly, v int) api.MPoly {
	if len(p.Terms) == 0 {
		return p
	}
	q, _ := plainExact(p, plainContent(p, v))
	return q
}

// plainGcd goes by pseudo-remainders without contents, as long as it takes.
func plainGcd(a, b api.MPoly) api.MPoly {
	if len(a.Terms) == 0 || len(b.Terms) == 0 {
		return positive(add(a, b))
	}
	n, _ := mpoly.Level(a)
	m, _ := mpoly.Level(b)
	v := max(n, m) - 1
	if v < 0 {
		c, _ := big.Gcd(a.Terms[0].Coef, b.Terms[0].Coef)
		return must(mpoly.Const(a.Vars, c))
	}
	c := plainGcd(plainContent(a, v), plainContent(b, v))
	a, b = plainPart(a, v), plainPart(b, v)
	for len(b.Terms) > 0 {
		a, b = b, plainPart(pseudoRest(a, b, v), v)
	}
	return positive(mul(a, c))
}

func pseudoRest(a, b api.MPoly, v int) api.MPoly {
	l, _ := mpoly.Coefs(b, v)
	for {
		k, _ := mpoly.Coefs(a, v)
		more := len(k) - len(l)
		if more < 0 || len(k) == 0 {
			return a
		}
		a = add(mul(a, l[len(l)-1]), neg(mul(b, k[len(k)-1], lone(a.Vars, v, more))))
	}
}

// random makes a polynomial in n variables of at most so many terms, such exponents, and such numbers.
func random(r *rand.Rand, n, terms, most int, size int64) api.MPoly {
	p := api.MPoly{Vars: n}
	for range terms {
		t := number(n, r.Int64N(2*size+1)-size)
		for v := range n {
			t = mul(t, lone(n, v, r.IntN(most+1)))
		}
		p = add(p, t)
	}
	return p
}

// long makes a number of limbs, the lowest first.
func long(neg bool, limbs ...uint64) api.Int { return api.Int{Neg: neg, Mag: limbs} }

// none lists what is no polynomial.
func none() []api.MPoly {
	one := big.From(1)
	term := func(c api.Int, exps ...int) api.Term { return api.Term{Exps: exps, Coef: c} }
	l := []api.MPoly{
		{Vars: -1}, {Vars: api.MaxVars + 1}, {Vars: math.MinInt}, {Vars: math.MaxInt},
		{Vars: 1, Terms: []api.Term{term(one)}}, {Vars: 1, Terms: []api.Term{term(one, 1, 0)}}, {Vars: 0, Terms: []api.Term{term(one, 0)}},
		{Vars: 1, Terms: []api.Term{term(api.Int{}, 1)}}, {Vars: 1, Terms: []api.Term{term(one, -1)}}, {Vars: 1, Terms: []api.Term{term(one, api.MaxDeg+1)}},
		{Vars: 1, Terms: []api.Term{term(one, 1), term(one, 1)}}, {Vars: 2, Terms: []api.Term{term(one, 5, 0), term(one, 0, 1)}},
	}
	for _, c := range []api.Int{{Neg: true}, {Mag: api.Nat{0}}, long(true, 5, 0)} {
		l = append(l, api.MPoly{Vars: 1, Terms: []api.Term{term(c, 1)}}, api.MPoly{Vars: 1, Terms: []api.Term{term(one, 1), term(c, 0)}})
	}
	many := mul(powers(2, 0, 64), powers(2, 1, 64), lone(2, 0, 1))
	many.Terms = append(many.Terms, term(one, 0, 0))
	return append(l, many)
}

// powers makes the sum of all v to the e, e from 0 to below n.
func powers(vars, v, n int) api.MPoly {
	p := api.MPoly{Vars: vars}
	for e := n - 1; e >= 0; e-- {
		p.Terms = append(p.Terms, lone(vars, v, e).Terms[0])
	}
	return p
}

// less1 makes v to the e, less 1.
func less1(vars, v, e int) api.MPoly { return add(lone(vars, v, e), number(vars, -1)) }

// box makes the product of less1 for all variables.
func box(vars, e int) api.MPoly {
	p := number(vars, 1)
	for v := range vars {
		p = mul(p, less1(vars, v, e))
	}
	return p
}

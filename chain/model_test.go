package chain_test

import (
	"math"
	"math/rand/v2"
	"slices"
	"strconv"
	"strings"
	"testing"

	"terrace/api"
	"terrace/big"
	"terrace/mpoly"
)

// names are the variables, the first one first.
const names = "xyzwtuvs"

// reader goes over a text: sums, products without a sign between the factors, powers, brackets.
type reader struct {
	vars int
	text string
}

// parse reads a polynomial in n variables: "3(x - y)^2(x + 1) - 7".
func parse(n int, text string) api.MPoly {
	r := &reader{n, strings.ReplaceAll(text, " ", "")}
	p := r.sum()
	if r.text != "" {
		panic("what is " + r.text)
	}
	return p
}

func (r *reader) ahead(kinds string) bool {
	return r.text != "" && strings.Contains(kinds, r.text[:1])
}

func (r *reader) sum() api.MPoly {
	p := api.MPoly{Vars: r.vars}
	for first := true; first || r.ahead("+-"); first = false {
		minus := r.ahead("-")
		r.text = strings.TrimLeft(r.text, "+-")
		q := number(r.vars, 1)
		for r.ahead("0123456789(" + names) {
			q = mul(q, r.power())
		}
		if minus {
			q = neg(q)
		}
		p = add(p, q)
	}
	return p
}

func (r *reader) power() api.MPoly {
	var p api.MPoly
	switch {
	case r.ahead("("):
		r.text = r.text[1:]
		p = r.sum()
		r.text = r.text[1:]
	case r.ahead(names):
		p = lone(r.vars, strings.Index(names, r.text[:1]), 1)
		r.text = r.text[1:]
	default:
		p = constant(r.vars, r.digits())
	}
	if !r.ahead("^") {
		return p
	}
	r.text = r.text[1:]
	n, _ := strconv.Atoi(r.digits())
	return raised(p, n)
}

func (r *reader) digits() string {
	n := len(r.text) - len(strings.TrimLeft(r.text, "0123456789"))
	s := r.text[:n]
	r.text = r.text[n:]
	return s
}

// raised tells p to the n.
func raised(p api.MPoly, n int) api.MPoly {
	if n == 0 {
		return number(p.Vars, 1)
	}
	half := raised(p, n/2)
	if n%2 == 1 {
		return mul(half, half, p)
	}
	return mul(half, half)
}

func constant(n int, digits string) api.MPoly {
	c, _ := big.Parse(digits)
	return must(mpoly.Const(n, c))
}

func number(n int, c int64) api.MPoly {
	return must(mpoly.Const(n, big.From(c)))
}

// lone makes v to the e in n variables.
func lone(n, v, e int) api.MPoly {
	p := api.MPoly{Vars: n, Terms: []api.Term{{Exps: make([]int, n), Coef: big.From(1)}}}
	p.Terms[0].Exps[v] = e
	return p
}

func must(p api.MPoly, e api.Errno) api.MPoly {
	if e != api.OK {
		panic(e)
	}
	return p
}

func add(l ...api.MPoly) api.MPoly {
	p := l[0]
	for _, q := range l[1:] {
		p = must(mpoly.Add(p, q))
	}
	return p
}

func mul(l ...api.MPoly) api.MPoly {
	p := l[0]
	for _, q := range l[1:] {
		p = must(mpoly.Mul(p, q))
	}
	return p
}

func neg(p api.MPoly) api.MPoly { return must(mpoly.Neg(p)) }

// turned tells p, with the other sign if n is odd.
func turned(p api.MPoly, n int) api.MPoly {
	if n%2 != 0 {
		return neg(p)
	}
	return p
}

func deg(p api.MPoly, v int) int {
	d, e := mpoly.Deg(p, v)
	if e != api.OK {
		panic(e)
	}
	return d
}

func coefs(p api.MPoly, v int) []api.MPoly {
	l, e := mpoly.Coefs(p, v)
	if e != api.OK {
		panic(e)
	}
	return l
}

func lead(p api.MPoly, v int) api.MPoly {
	l := coefs(p, v)
	return l[len(l)-1]
}

func show(p api.MPoly) string {
	var s strings.Builder
	for i, t := range p.Terms {
		if i == 20 {
			s.WriteString(" .. " + strconv.Itoa(len(p.Terms)))
			break
		}
		s.WriteString(" ")
		if !t.Coef.Neg {
			s.WriteString("+")
		}
		s.WriteString(big.Text(t.Coef))
		for v, e := range t.Exps {
			if e > 0 {
				s.WriteString(names[v:v+1] + "^" + strconv.Itoa(e))
			}
		}
	}
	return s.String()
}

func same(p, q api.MPoly) bool {
	return p.Vars == q.Vars && slices.EqualFunc(p.Terms, q.Terms, func(a, b api.Term) bool {
		return slices.Equal(a.Exps, b.Exps) && a.Coef.Neg == b.Coef.Neg && slices.Equal(a.Coef.Mag, b.Coef.Mag)
	})
}

// held takes an answer that has to be want.
func held(t *testing.T, what string, want api.MPoly) func(api.MPoly, api.Errno) {
	t.Helper()
	return func(got api.MPoly, e api.Errno) {
		t.Helper()
		if e != api.OK || !same(got, want) || mpoly.Check(got) != api.OK {
			t.Fatalf("%s: %d\n got%s in %d\nwant%s in %d", what, e, show(got), got.Vars, show(want), want.Vars)
		}
	}
}

// refused takes an answer that has to be an error, and nothing beside it.
func refused(t *testing.T, what string, want api.Errno) func(api.MPoly, api.Errno) {
	t.Helper()
	return func(got api.MPoly, e api.Errno) {
		t.Helper()
		if e != want || got.Vars != 0 || got.Terms != nil {
			t.Errorf("%s:%s, %d, want %d", what, show(got), e, want)
		}
	}
}

// plainMatrix is M_j,i by the words of the chapter.
func plainMatrix(a, b api.MPoly, v, j, i int) [][]api.MPoly {
	m, n := deg(a, v), deg(b, v)
	columns := m + n - j
	var rows [][]api.MPoly
	lay := func(p api.MPoly, many int) {
		l := coefs(p, v)
		slices.Reverse(l)
		for r := range many {
			row := make([]api.MPoly, columns)
			for c := range row {
				row[c] = api.MPoly{Vars: a.Vars}
			}
			copy(row[r:], l)
			rows = append(rows, append(row[:m+n-2*j-1:m+n-2*j-1], row[columns-1-i]))
		}
	}
	lay(a, n-j)
	lay(b, m-j)
	return rows
}

// plainDet goes by the first row's cells, and keeps what it knows of the other rows by their columns.
func plainDet(rows [][]api.MPoly, vars int) api.MPoly {
	known := map[uint64]api.MPoly{}
	var det func(r int, left uint64) api.MPoly
	det = func(r int, left uint64) api.MPoly {
		if r == len(rows) {
			return number(vars, 1)
		}
		if d, ok := known[left]; ok {
			return d
		}
		d, place := api.MPoly{Vars: vars}, 0
		for c := range rows {
			if left>>c&1 == 0 {
				continue
			}
			if len(rows[r][c].Terms) > 0 {
				d = add(d, turned(mul(rows[r][c], det(r+1, left&^(1<<c))), place))
			}
			place++
		}
		known[left] = d
		return d
	}
	return det(0, 1<<len(rows)-1)
}

func plainPsc(a, b api.MPoly, v, j int) api.MPoly {
	return plainDet(plainMatrix(a, b, v, j, j), a.Vars)
}

func plainSub(a, b api.MPoly, v, j int) api.MPoly {
	s := api.MPoly{Vars: a.Vars}
	for i := range j + 1 {
		s = add(s, mul(plainDet(plainMatrix(a, b, v, j, i), a.Vars), lone(a.Vars, v, i)))
	}
	return s
}

// random makes a polynomial in n variables of at most so many terms, such exponents, and such numbers.
func random(r *rand.Rand, n, terms, most int, size int64) api.MPoly {
	p := api.MPoly{Vars: n}
	for range terms {
		t := number(n, r.Int64N(2*size+1)-size)
		for v := range n {
			t = mul(t, lone(n, v, r.IntN(most+1)))
		}
		p = add(p, t)
	}
	return p
}

// long makes a number of limbs, the lowest first.
func long(neg bool, limbs ...uint64) api.Int { return api.Int{Neg: neg, Mag: limbs} }

// none lists what is no polynomial.
func none() []api.MPoly {
	one := big.From(1)
	term := func(c api.Int, exps ...int) api.Term { return api.Term{Exps: exps, Coef: c} }
	l := []api.MPoly{
		{Vars: -1}, {Vars: api.MaxVars + 1}, {Vars: math.MinInt}, {Vars: math.MaxInt},
		{Vars: 1, Terms: []api.Term{term(one)}}, {Vars: 1, Terms: []api.Term{term(one, 1, 0)}}, {Vars: 0, Terms: []api.Term{term(one, 0)}},
		{Vars: 1, Terms: []api.Term{term(api.Int{}, 1)}}, {Vars: 1, Terms: []api.Term{term(one, -1)}}, {Vars: 1, Terms: []api.Term{term(one, api.MaxDeg+1)}},
		{Vars: 1, Terms: []api.Term{term(one, 1), term(one, 1)}}, {Vars: 2, Terms: []api.Term{term(one, 5, 0), term(one, 0, 1)}},
	}
	for _, c := range []api.Int{{Neg: true}, {Mag: api.Nat{0}}, long(true, 5, 0)} {
		l = append(l, api.MPoly{Vars: 1, Terms: []api.Term{term(c, 1)}}, api.MPoly{Vars: 1, Terms: []api.Term{term(one, 1), term(c, 0)}})
	}
	many := mul(powers(2, 0, 64), powers(2, 1, 64), lone(2, 0, 1))
	many.Terms = append(many.Terms, term(one, 0, 0))
	return append(l, many)
}

// powers makes the sum of all v to the e, e from 0 to below n.
func powers(vars, v, n int) api.MPoly {
	p := api.MPoly{Vars: vars}
	for e := n - 1; e >= 0; e-- {
		p.Terms = append(p.Terms, lone(vars, v, e).Terms[0])
	}
	return p
}

func derived(p api.MPoly, v int) api.MPoly { return must(mpoly.Der(p, v)) }

// whole tells n as a rational.
func whole(n int64) api.Rat { return api.Rat{Num: big.From(n), Den: api.Nat{1}} }

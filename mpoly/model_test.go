package mpoly_test

import (
	"math"
	mathbig "math/big"
	"math/rand/v2"
	"slices"
	"strconv"
	"strings"
	"testing"

	"terrace/api"
	"terrace/big"
	"terrace/mpoly"
)

// key is a term's exponents; model a polynomial without an order: what the answers are held against.
type key [api.MaxVars]int

type model map[key]*mathbig.Int

// out tells a as a number of the library.
func out(a api.Int) *mathbig.Int {
	n := new(mathbig.Int)
	for _, limb := range slices.Backward(a.Mag) {
		n.Lsh(n, 64).Or(n, new(mathbig.Int).SetUint64(limb))
	}
	if a.Neg {
		n.Neg(n)
	}
	return n
}

func in(n *mathbig.Int) api.Int {
	a := api.Int{Neg: n.Sign() < 0}
	for m := new(mathbig.Int).Abs(n); m.Sign() > 0; m.Rsh(m, 64) {
		a.Mag = append(a.Mag, new(mathbig.Int).And(m, new(mathbig.Int).SetUint64(math.MaxUint64)).Uint64())
	}
	return a
}

func (m model) add(k key, c *mathbig.Int) {
	if m[k] == nil {
		m[k] = new(mathbig.Int)
	}
	m[k].Add(m[k], c)
}

// taken tells p's model.
func taken(p api.MPoly) model {
	m := model{}
	for _, t := range p.Terms {
		k := key{}
		copy(k[:], t.Exps)
		m.add(k, out(t.Coef))
	}
	return m
}

// made tells the polynomial in n variables, its terms brought into order by all exponents at once.
func (m model) made(n int) api.MPoly {
	var keys []key
	for k, c := range m {
		if c.Sign() != 0 {
			keys = append(keys, k)
		}
	}
	slices.SortFunc(keys, func(a, b key) int {
		slices.Reverse(a[:])
		slices.Reverse(b[:])
		return slices.Compare(b[:], a[:])
	})
	p := api.MPoly{Vars: n}
	for _, k := range keys {
		p.Terms = append(p.Terms, api.Term{Exps: slices.Clone(k[:n]), Coef: in(m[k])})
	}
	return p
}

func modelSum(p, q api.MPoly, sign int64) model {
	m := taken(p)
	for k, c := range taken(q) {
		m.add(k, c.Mul(c, mathbig.NewInt(sign)))
	}
	return m
}

func modelProduct(p, q api.MPoly) model {
	m, b := model{}, taken(q)
	for k, c := range taken(p) {
		for l, d := range b {
			at := k
			for v := range at {
				at[v] += l[v]
			}
			m.add(at, new(mathbig.Int).Mul(c, d))
		}
	}
	return m
}

// parse reads a polynomial in n variables, which are x, y, z, w, t, u, v, s: "3x^2y - y + 7".
func parse(n int, text string) api.MPoly {
	m := model{}
	for _, word := range strings.Fields(strings.NewReplacer("- ", "-", "+ ", "").Replace(text)) {
		k, rest := key{}, word
		digits := strings.IndexFunc(rest, func(r rune) bool { return r >= 'a' })
		if digits < 0 {
			digits = len(rest)
		}
		lead := rest[:digits]
		if lead == "" || lead == "-" {
			lead += "1"
		}
		c, _ := new(mathbig.Int).SetString(lead, 10)
		for rest = rest[digits:]; rest != ""; {
			v, e := strings.IndexByte("xyzwtuvs", rest[0]), 1
			if rest = rest[1:]; strings.HasPrefix(rest, "^") {
				e = 0
				for rest = rest[1:]; rest != "" && rest[0] < 'a'; rest = rest[1:] {
					e = 10*e + int(rest[0]-'0')
				}
			}
			k[v] += e
		}
		m.add(k, c)
	}
	return m.made(n)
}

func show(p api.MPoly) string {
	var s strings.Builder
	for _, t := range p.Terms {
		s.WriteString(" ")
		if !t.Coef.Neg {
			s.WriteString("+")
		}
		s.WriteString(big.Text(t.Coef))
		for v, e := range t.Exps {
			if e > 0 {
				s.WriteString("xyzwtuvs"[v:v+1] + "^" + strconv.Itoa(e))
			}
		}
	}
	return s.String()
}

func same(p, q api.MPoly) bool {
	return p.Vars == q.Vars && slices.EqualFunc(p.Terms, q.Terms, func(a, b api.Term) bool {
		return slices.Equal(a.Exps, b.Exps) && a.Coef.Neg == b.Coef.Neg && slices.Equal(a.Coef.Mag, b.Coef.Mag)
	})
}

// held takes an answer that has to be want.
func held(t *testing.T, what string, want api.MPoly) func(api.MPoly, api.Errno) {
	t.Helper()
	return func(got api.MPoly, e api.Errno) {
		t.Helper()
		if e != api.OK || !same(got, want) || mpoly.Check(got) != api.OK {
			t.Fatalf("%s: %d\n got%s in %d\nwant%s in %d", what, e, show(got), got.Vars, show(want), want.Vars)
		}
	}
}

// refused takes an answer that has to be an error, and nothing beside it.
func refused(t *testing.T, what string, want api.Errno) func(api.MPoly, api.Errno) {
	t.Helper()
	return func(got api.MPoly, e api.Errno) {
		t.Helper()
		if e != want || got.Vars != 0 || got.Terms != nil {
			t.Errorf("%s: %v, %d, want %d", what, got, e, want)
		}
	}
}

// long makes a number of limbs, the lowest first.
func long(neg bool, limbs ...uint64) api.Int { return api.Int{Neg: neg, Mag: limbs} }

// number tells short and long ones, and 0.
func number(r *rand.Rand) *mathbig.Int {
	switch r.IntN(8) {
	case 0:
		return out(long(r.IntN(2) == 0, r.Uint64(), r.Uint64(), r.Uint64()|1))
	case 1:
		return mathbig.NewInt(r.Int64() - r.Int64())
	}
	return mathbig.NewInt(r.Int64N(9) - 4)
}

// random makes a polynomial in n variables of at most so many terms and such exponents.
func random(r *rand.Rand, n, terms, most int) api.MPoly {
	m := model{}
	for range r.IntN(terms + 1) {
		k := key{}
		for v := range n {
			k[v] = r.IntN(most + 1)
		}
		m.add(k, number(r))
	}
	return m.made(n)
}

// rational tells one in lowest terms.
func rational(r *rand.Rand) *mathbig.Rat {
	den := mathbig.NewInt(1 + r.Int64N(12))
	if r.IntN(6) == 0 {
		den = out(long(false, r.Uint64(), r.Uint64()|1))
	}
	return new(mathbig.Rat).SetFrac(number(r), den)
}

func ratIn(a *mathbig.Rat) api.Rat {
	return api.Rat{Num: in(a.Num()), Den: in(a.Denom()).Mag}
}

func ratOut(a api.Rat) *mathbig.Rat {
	return new(mathbig.Rat).SetFrac(out(a.Num), out(api.Int{Mag: a.Den}))
}

// grid makes the sum of all x^i y^j with i below a and j below b, each with the coefficient that c tells.
func grid(n, a, b int, c func(i, j int) int64) api.MPoly {
	m := model{}
	for i := range a {
		for j := range b {
			m.add(key{i, j}, mathbig.NewInt(c(i, j)))
		}
	}
	return m.made(n)
}

func ones(int, int) int64 { return 1 }

// lone makes c times v to the e in n variables.
func lone(n int, c int64, v, e int) api.MPoly {
	p := api.MPoly{Vars: n, Terms: []api.Term{{Exps: make([]int, n), Coef: big.From(c)}}}
	p.Terms[0].Exps[v] = e
	return p
}

// noNumbers lists what is no number.
func noNumbers() []api.Int {
	return []api.Int{{Neg: true}, {Mag: api.Nat{0}}, {Mag: api.Nat{5, 0}}, {Neg: true, Mag: api.Nat{1, 2, 0}}}
}

// noRationals lists what is no rational.
func noRationals() []api.Rat {
	l := []api.Rat{{}, {Num: big.From(1)}, {Num: big.From(2), Den: api.Nat{4}}, {Den: api.Nat{2}}, {Num: big.From(1), Den: api.Nat{0}}, {Num: big.From(1), Den: api.Nat{3, 0}}}
	for _, c := range noNumbers() {
		l = append(l, api.Rat{Num: c, Den: api.Nat{1}})
	}
	return l
}

// none lists what is no polynomial.
func none() []api.MPoly {
	one := big.From(1)
	term := func(c api.Int, exps ...int) api.Term { return api.Term{Exps: exps, Coef: c} }
	l := []api.MPoly{
		{Vars: -1}, {Vars: api.MaxVars + 1}, {Vars: math.MinInt}, {Vars: math.MaxInt},
		{Vars: api.MaxVars + 1, Terms: []api.Term{term(one, make([]int, api.MaxVars+1)...)}},
		{Vars: 1, Terms: []api.Term{term(one)}}, {Vars: 1, Terms: []api.Term{term(one, 1, 0)}}, {Vars: 0, Terms: []api.Term{term(one, 0)}},
		{Vars: 1, Terms: []api.Term{term(api.Int{}, 1)}}, {Vars: 0, Terms: []api.Term{term(api.Int{})}},
		{Vars: 1, Terms: []api.Term{term(one, -1)}}, {Vars: 2, Terms: []api.Term{term(one, 3, math.MinInt)}},
		{Vars: 1, Terms: []api.Term{term(one, api.MaxDeg+1)}}, {Vars: 2, Terms: []api.Term{term(one, 1<<16, 0)}}, {Vars: 2, Terms: []api.Term{term(one, math.MaxInt, 0)}},
		{Vars: 1, Terms: []api.Term{term(one, 1), term(one, 1)}}, {Vars: 1, Terms: []api.Term{term(one, 1), term(one, 2)}}, {Vars: 0, Terms: []api.Term{term(one), term(one)}},
		{Vars: 2, Terms: []api.Term{term(one, 5, 0), term(one, 0, 1)}}, {Vars: 2, Terms: []api.Term{term(one, 1, 1), term(one, 2, 1)}},
		{Vars: 1, Terms: []api.Term{term(one, 3), term(one, 1), term(one, 2)}},
	}
	for _, c := range noNumbers() {
		l = append(l, api.MPoly{Vars: 1, Terms: []api.Term{term(c, 1)}}, api.MPoly{Vars: 1, Terms: []api.Term{term(one, 1), term(c, 0)}})
	}
	many := grid(2, 64, 64, ones)
	for i := range many.Terms {
		many.Terms[i].Exps[0]++
	}
	many.Terms = append(many.Terms, term(one, 0, 0))
	return append(l, many)
}

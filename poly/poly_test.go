package poly_test

import (
	"math"
	ref "math/big"
	"math/rand/v2"
	"reflect"
	"testing"

	"terrace/api"
	"terrace/big"
	"terrace/poly"
	"terrace/rat"
	"terrace/span"
)

// maker makes polynomials of all kinds: 0, constants, with gaps, with long coefficients, with contents.
type maker struct{ *rand.Rand }

func newMaker() maker { return maker{rand.New(rand.NewPCG(7, 8))} }

func (m maker) number() *ref.Int {
	x := ref.NewInt(m.Int64N(13))
	switch m.IntN(7) {
	case 0:
		x.SetInt64(0)
	case 1:
		x.Lsh(ref.NewInt(1), uint(m.IntN(150)))
	case 2:
		x.SetUint64(math.MaxUint64)
		x.Mul(x, new(ref.Int).SetUint64(m.Uint64()))
	}
	if m.IntN(2) == 0 {
		x.Neg(x)
	}
	return x
}

func (m maker) rational() *ref.Rat {
	d := m.number()
	if d.Sign() == 0 {
		d.SetInt64(1)
	}
	return new(ref.Rat).SetFrac(m.number(), d)
}

// poly makes one of a degree below n.
func (m maker) poly(n int) model {
	p := make(model, m.IntN(n+1))
	for i := range p {
		p[i] = m.number()
	}
	if m.IntN(4) == 0 {
		return p.times(model{m.number()})
	}
	return p.trim()
}

// nonzero makes one that is not 0.
func (m maker) nonzero(n int) model {
	for {
		if p := m.poly(n); len(p) > 0 {
			return p
		}
	}
}

// model is a polynomial of the reference.
type model []*ref.Int

func (p model) trim() model {
	for len(p) > 0 && p[len(p)-1].Sign() == 0 {
		p = p[:len(p)-1]
	}
	return p
}

func (p model) at(i int) *ref.Int {
	if i < len(p) {
		return p[i]
	}
	return new(ref.Int)
}

func (p model) plus(q model, sign int64) model {
	out := make(model, max(len(p), len(q)))
	for i := range out {
		out[i] = new(ref.Int).Mul(q.at(i), ref.NewInt(sign))
		out[i].Add(out[i], p.at(i))
	}
	return out.trim()
}

func (p model) times(q model) model {
	out := make(model, max(len(p)+len(q)-1, 0))
	for i := range out {
		out[i] = new(ref.Int)
	}
	for i, a := range p {
		for j, b := range q {
			out[i+j].Add(out[i+j], new(ref.Int).Mul(a, b))
		}
	}
	return out.trim()
}

func (p model) power(n int) model {
	out := model{ref.NewInt(1)}
	for range n {
		out = out.times(p)
	}
	return out
}

func (p model) value(x *ref.Rat) *ref.Rat {
	v, power := new(ref.Rat), ref.NewRat(1, 1)
	for _, c := range p {
		v.Add(v, new(ref.Rat).Mul(new(ref.Rat).SetInt(c), power))
		power = new(ref.Rat).Mul(power, x)
	}
	return v
}

func (p model) content() *ref.Int {
	g := new(ref.Int)
	for _, c := range p {
		g.GCD(nil, nil, g, new(ref.Int).Abs(c))
	}
	return g
}

func (p model) primitive() model {
	if len(p) == 0 {
		return nil
	}
	c := p.content()
	if p[len(p)-1].Sign() < 0 {
		c.Neg(c)
	}
	out := make(model, len(p))
	for i := range p {
		out[i] = new(ref.Int).Quo(p[i], c)
	}
	return out
}

// rest is a primitive part of a multiple of what p leaves divided by q.
func (p model) rest(q model) model {
	for len(p) >= len(q) {
		shifted := append(make(model, len(p)-len(q)), q...)
		for i := range len(p) - len(q) {
			shifted[i] = new(ref.Int)
		}
		p = p.times(model{q[len(q)-1]}).plus(shifted.times(model{p[len(p)-1]}), -1)
	}
	return p.primitive()
}

func (p model) gcd(q model) model {
	c := new(ref.Int).GCD(nil, nil, p.content(), q.content())
	p, q = p.primitive(), q.primitive()
	for len(q) > 0 {
		p, q = q, p.rest(q)
	}
	return p.times(model{c})
}

func number(x *ref.Int) api.Int {
	var mag api.Nat
	for _, w := range x.Bits() {
		mag = append(mag, uint64(w))
	}
	return api.Int{Neg: x.Sign() < 0, Mag: mag}
}

func fraction(x *ref.Rat) api.Rat {
	return api.Rat{Num: number(x.Num()), Den: number(x.Denom()).Mag}
}

func of(p model) api.Poly {
	var out api.Poly
	for _, c := range p {
		out = append(out, number(c))
	}
	return out
}

func ints(l ...int64) api.Poly {
	var p api.Poly
	for _, n := range l {
		p = append(p, big.From(n))
	}
	return p
}

func small(l ...int64) model {
	var p model
	for _, n := range l {
		p = append(p, ref.NewInt(n))
	}
	return p.trim()
}

// power is c x^n.
func power(c int64, n int) api.Poly {
	return append(make(api.Poly, n), big.From(c))
}

func text(p api.Poly) string {
	s := "("
	for _, c := range p {
		s += " " + big.Text(c)
	}
	return s + " )"
}

type answer struct {
	p api.Poly
	e api.Errno
}

func told(p api.Poly, e api.Errno) answer { return answer{p, e} }

func same(t *testing.T, what string, got answer, want model) {
	t.Helper()
	if !reflect.DeepEqual(got, answer{of(want), api.OK}) {
		t.Fatalf("%s: got %.300s, %d, want %.300v", what, text(got.p), got.e, want)
	}
}

// noNumbers are values that are no numbers.
func noNumbers() []api.Int {
	return []api.Int{{Neg: true}, {Neg: true, Mag: api.Nat{}}, {Mag: api.Nat{0}}, {Mag: api.Nat{5, 0}}, {Neg: true, Mag: api.Nat{1, 2, 0}}}
}

// none are values that are no polynomials.
func none() []api.Poly {
	out := []api.Poly{
		{{}}, ints(1, 0), ints(0, 0), ints(-3, 5, 0), {big.From(1), {Mag: api.Nat{}}},
		power(1, api.MaxDeg+1), power(0, api.MaxDeg), make(api.Poly, api.MaxDeg+2), make(api.Poly, 4*api.MaxDeg),
	}
	for _, c := range noNumbers() {
		out = append(out, api.Poly{c}, api.Poly{c, big.From(1)}, api.Poly{big.From(1), c}, api.Poly{big.From(1), c, big.From(-1)})
	}
	return out
}

// P4.1: what is a polynomial, and what is none.
func TestCheck(t *testing.T) {
	for i, p := range none() {
		if e := poly.Check(p); e != api.ErrPolyForm {
			t.Errorf("%d: %d", i, e)
		}
	}
	for i, p := range []api.Poly{nil, {}, ints(1), ints(-1), ints(0, 1), ints(0, 0, -7), power(1, api.MaxDeg), {{Mag: api.Nat{}}, big.From(1)}, {big.From(1), {Mag: api.Nat{0, 1}}}} {
		if e := poly.Check(p); e != api.OK {
			t.Errorf("%d: %d", i, e)
		}
	}
}

// P4.1: each call that tells an Errno tells ErrPolyForm ahead of its other errors, with zero values beside it.
func TestNoneFirst(t *testing.T) {
	good, zero, high := ints(2, -1), api.Poly(nil), power(1, api.MaxDeg)
	two, _ := rat.Parse("2")
	for n, bad := range none() {
		for i, got := range []answer{
			told(poly.Add(bad, good)), told(poly.Add(good, bad)), told(poly.Sub(bad, good)), told(poly.Sub(zero, bad)), told(poly.Sub(bad, bad)),
			told(poly.Mul(bad, good)), told(poly.Mul(good, bad)), told(poly.Mul(bad, zero)), told(poly.Mul(zero, bad)), told(poly.Mul(high, bad)),
			told(poly.Neg(bad)), told(poly.Scale(bad, big.From(2))), told(poly.Scale(bad, api.Int{})), told(poly.Der(bad)), told(poly.Prim(bad)),
			told(poly.Exact(bad, good)), told(poly.Exact(good, bad)), told(poly.Exact(bad, zero)), told(poly.Exact(zero, bad)),
			told(poly.Gcd(bad, good)), told(poly.Gcd(good, bad)), told(poly.Gcd(zero, bad)), told(poly.Gcd(bad, zero)),
		} {
			if !reflect.DeepEqual(got, answer{e: api.ErrPolyForm}) {
				t.Errorf("%d: call %d: %s, %d", n, i, text(got.p), got.e)
			}
		}
		for i, pair := range [][2]api.Poly{{bad, good}, {good, bad}, {bad, zero}, {zero, bad}, {bad, bad}} {
			if q, r, k, e := poly.PDiv(pair[0], pair[1]); q != nil || r != nil || k != 0 || e != api.ErrPolyForm {
				t.Errorf("%d: PDiv %d: %d", n, i, e)
			}
		}
		if v, e := poly.Eval(bad, two); !reflect.DeepEqual(v, api.Rat{}) || e != api.ErrPolyForm {
			t.Errorf("%d: Eval: %d", n, e)
		}
		if v, e := poly.EvalSpan(bad, api.Span{Lo: two, Hi: two}); !reflect.DeepEqual(v, api.Span{}) || e != api.ErrPolyForm {
			t.Errorf("%d: EvalSpan: %d", n, e)
		}
		if c, e := poly.Content(bad); !reflect.DeepEqual(c, api.Int{}) || e != api.ErrPolyForm {
			t.Errorf("%d: Content: %d", n, e)
		}
	}
}

// P4.1: numbers, rationals and intervals that are none.
func TestNoNumbers(t *testing.T) {
	one, two := rat.From(big.From(1)), rat.From(big.From(2))
	for _, p := range []api.Poly{nil, ints(3), ints(1, 2)} {
		for _, c := range noNumbers() {
			if got := told(poly.Scale(p, c)); !reflect.DeepEqual(got, answer{e: api.ErrPolyForm}) {
				t.Errorf("Scale(%s, %v): %v", text(p), c, got)
			}
			noValues(t, p, api.Rat{Num: c, Den: api.Nat{1}}, one)
		}
		for _, a := range []api.Rat{{}, {Num: big.From(1)}, {Num: big.From(2), Den: api.Nat{4}}, {Den: api.Nat{2}}, {Num: big.From(1), Den: api.Nat{1, 0}}} {
			noValues(t, p, a, one)
		}
		if s, e := poly.EvalSpan(p, api.Span{Lo: two, Hi: one}); !reflect.DeepEqual(s, api.Span{}) || e != api.ErrPolyForm {
			t.Errorf("EvalSpan(%s) of [2, 1]: %v, %d", text(p), s, e)
		}
	}
}

func noValues(t *testing.T, p api.Poly, bad, good api.Rat) {
	t.Helper()
	if v, e := poly.Eval(p, bad); !reflect.DeepEqual(v, api.Rat{}) || e != api.ErrPolyForm {
		t.Errorf("Eval(%s, %v): %v, %d", text(p), bad, v, e)
	}
	for _, s := range []api.Span{{Lo: bad, Hi: good}, {Lo: good, Hi: bad}, {Lo: bad, Hi: bad}} {
		if v, e := poly.EvalSpan(p, s); !reflect.DeepEqual(v, api.Span{}) || e != api.ErrPolyForm {
			t.Errorf("EvalSpan(%s, %v): %v, %d", text(p), s, v, e)
		}
	}
}

// P4.1: the calls that tell no Errno, of what is none.
func TestNoneWithoutErrno(t *testing.T) {
	for n, bad := range none() {
		if d := poly.Deg(bad); d != -1 {
			t.Errorf("%d: Deg: %d", n, d)
		}
		if c := poly.Lead(bad); !reflect.DeepEqual(c, api.Int{}) {
			t.Errorf("%d: Lead: %v", n, c)
		}
		for _, good := range []api.Poly{nil, ints(1), ints(1, 2), power(-1, api.MaxDeg)} {
			if poly.Cmp(bad, good) != 0 || poly.Cmp(good, bad) != 0 || poly.Cmp(bad, bad) != 0 {
				t.Errorf("%d: Cmp with %.40s", n, text(good))
			}
		}
	}
}

// P4.1: degrees, leads, order.
func TestDegLeadCmp(t *testing.T) {
	// Each is below the next one.
	rising := []api.Poly{
		nil, ints(-1 << 63), ints(-2), ints(-1), ints(1), ints(2), {{Mag: api.Nat{0, 1}}}, ints(9, -2), ints(-9, -1), ints(0, -1), ints(5, -1),
		ints(-5, 1), ints(0, 1), ints(1, 1), ints(0, 2), ints(9, 9, -1), ints(0, -9, 1), ints(9, -9, 1), ints(-9, 0, 1), ints(0, 0, 1), power(-1, 3), power(1, api.MaxDeg),
	}
	for i, p := range rising {
		if poly.Deg(p) != len(p)-1 {
			t.Errorf("Deg(%s): %d", text(p), poly.Deg(p))
		}
		for k, q := range rising {
			want := 0
			if i != k {
				want = 1
				if i < k {
					want = -1
				}
			}
			if got := poly.Cmp(p, q); got != want {
				t.Errorf("Cmp(%.60s, %.60s): %d", text(p), text(q), got)
			}
		}
	}
	m := newMaker()
	for range 1000 {
		p := m.nonzero(6)
		if got := poly.Lead(of(p)); !reflect.DeepEqual(got, number(p[len(p)-1])) || poly.Deg(of(p)) != len(p)-1 {
			t.Fatalf("Lead(%v): %v", p, got)
		}
	}
	if got := poly.Lead(nil); !reflect.DeepEqual(got, api.Int{}) || poly.Deg(nil) != -1 || poly.Deg(api.Poly{}) != -1 {
		t.Error("Lead, Deg of 0")
	}
}

// P4.2: sums, differences, products, opposites, multiples, derivatives.
func TestReckoned(t *testing.T) {
	m := newMaker()
	for range 3000 {
		p, q, c := m.poly(7), m.poly(7), m.number()
		a, b := of(p), of(q)
		same(t, "Add", told(poly.Add(a, b)), p.plus(q, 1))
		same(t, "Sub", told(poly.Sub(a, b)), p.plus(q, -1))
		same(t, "Sub", told(poly.Sub(a, a)), nil)
		same(t, "Mul", told(poly.Mul(a, b)), p.times(q))
		same(t, "Mul", told(poly.Mul(a, a)), p.times(p))
		same(t, "Neg", told(poly.Neg(a)), p.times(small(-1)))
		same(t, "Scale", told(poly.Scale(a, number(c))), p.times(model{c}))
		var der model
		for i := 1; i < len(p); i++ {
			der = append(der, new(ref.Int).Mul(p[i], ref.NewInt(int64(i))))
		}
		same(t, "Der", told(poly.Der(a)), der)
		same(t, "Add", told(poly.Add(a, of(p.times(small(-1))))), nil)
	}
	same(t, "Der", told(poly.Der(ints(7))), nil)
	same(t, "Scale", told(poly.Scale(ints(7, 1), api.Int{})), nil)
	same(t, "Add", told(poly.Add(ints(1, 2, 3), ints(5, -2, -3))), small(6))
}

// P4.2: the degree of a product is at most MaxDeg.
func TestProductDegree(t *testing.T) {
	for _, c := range []struct {
		p, q int
		e    api.Errno
	}{{api.MaxDeg, 0, api.OK}, {0, api.MaxDeg, api.OK}, {500, api.MaxDeg - 500, api.OK}, {api.MaxDeg, 1, api.ErrPolyForm}, {1, api.MaxDeg, api.ErrPolyForm}, {501, api.MaxDeg - 500, api.ErrPolyForm}, {api.MaxDeg, api.MaxDeg, api.ErrPolyForm}} {
		got := told(poly.Mul(power(-3, c.p), power(5, c.q)))
		want := answer{e: c.e}
		if c.e == api.OK {
			want.p = power(-15, c.p+c.q)
		}
		if !reflect.DeepEqual(got, want) {
			t.Errorf("Mul of the degrees %d, %d: %d", c.p, c.q, got.e)
		}
	}
	if got := told(poly.Mul(power(1, api.MaxDeg), nil)); !reflect.DeepEqual(got, answer{}) {
		t.Errorf("Mul with 0: %d", got.e)
	}
}

// P4.3: values at rationals.
func TestEval(t *testing.T) {
	m := newMaker()
	for range 3000 {
		p, x := m.poly(7), m.rational()
		v, e := poly.Eval(of(p), fraction(x))
		if want := fraction(p.value(x)); e != api.OK || !reflect.DeepEqual(v, want) {
			t.Fatalf("Eval(%v, %v): %s, %d, want %s", p, x, rat.Text(v), e, rat.Text(want))
		}
	}
}

// horner is the rule as the chapter words it.
func horner(t *testing.T, p api.Poly, s api.Span) api.Span {
	t.Helper()
	fine := func(x api.Span, e api.Errno) api.Span {
		if e != api.OK {
			t.Fatal(e)
		}
		return x
	}
	if len(p) == 0 {
		return fine(span.Of(rat.From(api.Int{})))
	}
	sofar := fine(span.Of(rat.From(p[len(p)-1])))
	for i := len(p) - 2; i >= 0; i-- {
		sofar = fine(span.Add(fine(span.Mul(sofar, s)), fine(span.Of(rat.From(p[i])))))
	}
	return sofar
}

// P4.3: the intervals of Horner's rule; the values of all numbers in the interval are in it.
func TestEvalSpan(t *testing.T) {
	m := newMaker()
	for range 3000 {
		p, x, y := m.poly(6), m.rational(), m.rational()
		if x.Cmp(y) > 0 {
			x, y = y, x
		}
		if m.IntN(8) == 0 {
			y = x
		}
		s := api.Span{Lo: fraction(x), Hi: fraction(y)}
		got, e := poly.EvalSpan(of(p), s)
		if want := horner(t, of(p), s); e != api.OK || !reflect.DeepEqual(got, want) {
			t.Fatalf("EvalSpan(%v, [%v, %v]): [%s, %s], want [%s, %s]", p, x, y, rat.Text(got.Lo), rat.Text(got.Hi), rat.Text(want.Lo), rat.Text(want.Hi))
		}
		middle := new(ref.Rat).Add(x, y)
		middle.Mul(middle, ref.NewRat(1, 2))
		for _, at := range []*ref.Rat{x, y, middle} {
			if has, e := span.Has(got, fraction(p.value(at))); !has || e != api.OK {
				t.Fatalf("EvalSpan(%v, [%v, %v]) has not the value at %v", p, x, y, at)
			}
		}
	}
}

// P4.4: contents, and what is left without them.
func TestContentPrim(t *testing.T) {
	m := newMaker()
	for range 3000 {
		p := m.poly(6).times(model{m.number()})
		c, e := poly.Content(of(p))
		if e != api.OK || !reflect.DeepEqual(c, number(p.content())) {
			t.Fatalf("Content(%v): %s, %d", p, big.Text(c), e)
		}
		same(t, "Prim", told(poly.Prim(of(p))), p.primitive())
	}
	for _, c := range []struct {
		p       api.Poly
		content int64
		prim    api.Poly
	}{{ints(4, -6), 2, ints(-2, 3)}, {nil, 0, nil}, {ints(-7), 7, ints(1)}, {ints(0, 0, -4), 4, ints(0, 0, 1)}, {ints(-1<<63, 1<<62), 1 << 62, ints(-2, 1)}} {
		if got, e := poly.Content(c.p); e != api.OK || !reflect.DeepEqual(got, big.From(c.content)) {
			t.Errorf("Content(%s): %s, %d", text(c.p), big.Text(got), e)
		}
		if got := told(poly.Prim(c.p)); !reflect.DeepEqual(got, answer{p: c.prim}) {
			t.Errorf("Prim(%s): %s", text(c.p), text(got.p))
		}
	}
}

func holdPDiv(t *testing.T, a, b model) {
	t.Helper()
	q, r, k, e := poly.PDiv(of(a), of(b))
	if e != api.OK || k != max(len(a)-len(b)+1, 0) || poly.Check(q) != api.OK || poly.Check(r) != api.OK || len(r) >= len(b) {
		t.Fatalf("PDiv(%v, %v): %s, %s, %d, %d", a, b, text(q), text(r), k, e)
	}
	left := a.times(b[len(b)-1:].power(k))
	if !reflect.DeepEqual(of(left), of(back(q).times(b).plus(back(r), 1))) {
		t.Fatalf("PDiv(%v, %v): %s, %s, %d", a, b, text(q), text(r), k)
	}
}

func back(p api.Poly) model {
	var out model
	for _, c := range p {
		x, _ := new(ref.Int).SetString(big.Text(c), 10)
		out = append(out, x)
	}
	return out
}

// P4.5: quotients and remainders by the lead's powers.
func TestPDiv(t *testing.T) {
	m := newMaker()
	for range 2000 {
		a, b := m.poly(9), m.nonzero(6)
		holdPDiv(t, a, b)
		holdPDiv(t, a.times(b), b)
		holdPDiv(t, a, b.plus(append(zeros(len(b)), ref.NewInt(1)), 1))
	}
	holdPDiv(t, back(power(3, api.MaxDeg)), small(1, 2))
	holdPDiv(t, back(power(3, api.MaxDeg)), small(2))
	holdPDiv(t, back(power(3, 2)), back(power(1, api.MaxDeg)))
	for _, a := range []api.Poly{nil, ints(1), ints(1, 2)} {
		if q, r, k, e := poly.PDiv(a, nil); q != nil || r != nil || k != 0 || e != api.ErrPolyZero {
			t.Errorf("PDiv(%s, 0): %s, %s, %d, %d", text(a), text(q), text(r), k, e)
		}
	}
	q, r, k, e := poly.PDiv(ints(0, 0, 1), ints(1, 2))
	if !reflect.DeepEqual(q, ints(-1, 2)) || !reflect.DeepEqual(r, ints(1)) || k != 2 || e != api.OK {
		t.Errorf("PDiv(x^2, 2x + 1): %s, %s, %d, %d", text(q), text(r), k, e)
	}
}

func zeros(n int) model {
	out := make(model, n)
	for i := range out {
		out[i] = new(ref.Int)
	}
	return out
}

// P4.5: quotients, where there is one, and where there is none.
func TestExact(t *testing.T) {
	m := newMaker()
	for range 2000 {
		q, b := m.poly(8), m.nonzero(6)
		same(t, "Exact", told(poly.Exact(of(q.times(b)), of(b))), q)
		// One more, below b's degree, leaves a rest.
		if len(b) > 1 {
			off := append(zeros(m.IntN(len(b)-1)), ref.NewInt(1))
			noQuotient(t, q.times(b).plus(off, 1), b)
		}
		// A divisor over the rationals is none over the whole numbers.
		if c := q.primitive(); len(c) > 0 {
			noQuotient(t, c.times(b.primitive()), b.primitive().times(small(2)))
			noQuotient(t, c.times(b.primitive()), small(3))
		}
	}
	for _, b := range []api.Poly{ints(1), ints(-2), ints(3, 4), power(1, api.MaxDeg)} {
		same(t, "Exact", told(poly.Exact(nil, b)), nil)
	}
	for _, a := range []api.Poly{nil, ints(1), ints(0, 1)} {
		if got := told(poly.Exact(a, nil)); !reflect.DeepEqual(got, answer{e: api.ErrPolyZero}) {
			t.Errorf("Exact(%s, 0): %d", text(a), got.e)
		}
	}
	noQuotient(t, small(1), small(0, 1))
	noQuotient(t, small(1, 1), small(2))
	noQuotient(t, small(0, 0, 1), small(1, 1))
}

func noQuotient(t *testing.T, a, b model) {
	t.Helper()
	if got := told(poly.Exact(of(a), of(b))); !reflect.DeepEqual(got, answer{e: api.ErrPolyRest}) {
		t.Fatalf("Exact(%v, %v): %s, %d", a, b, text(got.p), got.e)
	}
}

// P4.5: quotients whose coefficients are much longer than those of what is divided, or of high degree.
func TestExactLong(t *testing.T) {
	// x^n - 1 by x - 1: all coefficients are 1, and (x - 1)^n by (x - 1)^k: they are great in the middle.
	n := api.MaxDeg
	all := zeros(n + 1)
	all[0].SetInt64(-1)
	all[n].SetInt64(1)
	ones := make(model, n)
	for i := range ones {
		ones[i] = ref.NewInt(1)
	}
	same(t, "Exact", told(poly.Exact(of(all), ints(-1, 1))), ones)
	same(t, "Exact", told(poly.Exact(of(all), of(ones))), small(-1, 1))
	noQuotient(t, all, small(1, 2))
	noQuotient(t, all, small(-2, 1))
	b := small(-1, 1)
	same(t, "Exact", told(poly.Exact(of(b.power(64)), of(b.power(30)))), b.power(34))
	// Every second factor: the quotient is higher than the product.
	even, odd := small(1), small(1)
	for i := int64(1); i < 40; i += 2 {
		odd = odd.times(append(append(small(-1), zeros(int(i)-1)...), ref.NewInt(1)))
		even = even.times(append(append(small(-1), zeros(int(i))...), ref.NewInt(1)))
	}
	same(t, "Exact", told(poly.Exact(of(even.times(odd)), of(odd))), even)
	same(t, "Exact", told(poly.Exact(of(even.times(odd)), of(even))), odd)
}

// P4.6: greatest common divisors, with contents.
func TestGcd(t *testing.T) {
	m := newMaker()
	for range 2000 {
		g, p, q := m.poly(5), m.poly(5), m.poly(5)
		a, b := p.times(g), q.times(g)
		same(t, "Gcd", told(poly.Gcd(of(a), of(b))), a.gcd(b))
		same(t, "Gcd", told(poly.Gcd(of(p), of(q))), p.gcd(q))
		same(t, "Gcd", told(poly.Gcd(of(a), of(g))), a.gcd(g))
		if len(g) > 0 {
			up := g.times(small(0, int64(g[len(g)-1].Sign())))
			same(t, "Gcd", told(poly.Gcd(of(up), of(up))), up)
		}
	}
	for _, c := range [][3]api.Poly{
		{nil, nil, nil}, {nil, ints(-3, -6), ints(3, 6)}, {ints(0, 5), nil, ints(0, 5)}, {nil, ints(-4), ints(4)}, {ints(-6), ints(4), ints(2)},
		{ints(6), ints(0, 4), ints(2)}, {ints(-2, 0, 2), ints(-4, 4), ints(-2, 2)}, {ints(1, 1), ints(1, 2), ints(1)}, {ints(-2, -2), ints(-4, -4), ints(2, 2)},
		{ints(-1, 0, 0, 0, 1), ints(-1, 0, 0, 0, 0, 0, 1), ints(-1, 0, 1)}, {power(6, api.MaxDeg), power(-4, 700), power(2, 700)},
	} {
		if got := told(poly.Gcd(c[0], c[1])); !reflect.DeepEqual(got, answer{p: c[2]}) {
			t.Errorf("Gcd(%.80s, %.80s): %.80s, %d", text(c[0]), text(c[1]), text(got.p), got.e)
		}
	}
}

// P4.6: what is alike modulo the primes by which divisors may be found.
func TestGcdByPrimes(t *testing.T) {
	first := primesBelow(1<<62, 40)
	first = append(first, primesBelow(1<<63-1, 3)...)
	product := ref.NewInt(1)
	one, x, y, z := small(1), small(0, 1), small(1, 1), small(-5, 3, 7)
	for i, p := range first {
		product = new(ref.Int).Mul(product, p)
		for _, c := range []*ref.Int{p, product, new(ref.Int).Neg(product)} {
			by := model{c}
			// x and x + c are one modulo all primes of c.
			near := x.plus(by, 1)
			same(t, "Gcd", told(poly.Gcd(of(x), of(near))), one)
			same(t, "Gcd", told(poly.Gcd(of(x.times(y)), of(near.times(y)))), y)
			same(t, "Gcd", told(poly.Gcd(of(near.times(z)), of(near.times(x).times(z)))), near.times(z).gcd(nil))
			// c x + 1 and x + c lose their lead, or their lowest coefficient.
			fall := x.times(by).plus(one, 1)
			same(t, "Gcd", told(poly.Gcd(of(fall.times(z)), of(fall.times(y)))), fall.gcd(nil))
			same(t, "Gcd", told(poly.Gcd(of(fall.times(z)), of(near.times(z)))), z)
			same(t, "Gcd", told(poly.Gcd(of(by.times(y)), of(by.times(z)))), by.gcd(nil))
		}
		if i > 4 && i < 30 {
			continue
		}
		// One factor that is there only modulo the primes, ahead of one that is everywhere.
		a, b := x.times(x).times(z), x.plus(model{product}, 1).times(z)
		same(t, "Gcd", told(poly.Gcd(of(a), of(b))), z)
	}
}

func primesBelow(top uint64, n int) []*ref.Int {
	var out []*ref.Int
	for x := new(ref.Int).SetUint64(top - 1); len(out) < n; x = new(ref.Int).Sub(x, ref.NewInt(1)) {
		if x.ProbablyPrime(10) {
			out = append(out, x)
		}
	}
	return out
}

// P4.6: divisors with long coefficients, and of high degree.
func TestGcdLong(t *testing.T) {
	m := newMaker()
	long := func(n, bits int) model {
		p := make(model, n+1)
		for i := range p {
			p[i] = new(ref.Int).SetBit(new(ref.Int).SetUint64(m.Uint64()), bits+m.IntN(20), 1)
		}
		return p
	}
	for _, size := range [][2]int{{1, 60}, {2, 63}, {3, 130}, {3, 1900}, {2, 4000}, {30, 200}} {
		g := long(size[0], size[1])
		p, q := long(2, 70), long(3, 70)
		same(t, "Gcd", told(poly.Gcd(of(p.times(g)), of(q.times(g)))), p.times(g).gcd(q.times(g)))
	}
	g := long(500, 64)
	a, b := told(poly.Mul(of(g), power(2, api.MaxDeg-500))), told(poly.Mul(of(g), of(long(40, 64))))
	got := told(poly.Gcd(a.p, b.p))
	if want := told(poly.Gcd(of(g), nil)); !reflect.DeepEqual(got, want) {
		t.Errorf("Gcd of high degree: the degree is %d, not %d", poly.Deg(got.p), poly.Deg(want.p))
	}
}

// P4.7: a ring; values keep sums and products; divisors divide, and what is left has none but 1 and -1.
func TestLaws(t *testing.T) {
	m := newMaker()
	fine := func(p api.Poly, e api.Errno) api.Poly {
		t.Helper()
		if e != api.OK {
			t.Fatal(e)
		}
		return p
	}
	alike := func(what string, p, q api.Poly) {
		t.Helper()
		if !reflect.DeepEqual(p, q) || poly.Cmp(p, q) != 0 {
			t.Fatalf("%s: %s is not %s", what, text(p), text(q))
		}
	}
	for range 1000 {
		p, q, r := of(m.poly(5)), of(m.poly(5)), of(m.poly(5))
		alike("a sum turned", fine(poly.Add(p, q)), fine(poly.Add(q, p)))
		alike("a product turned", fine(poly.Mul(p, q)), fine(poly.Mul(q, p)))
		alike("three added", fine(poly.Add(fine(poly.Add(p, q)), r)), fine(poly.Add(p, fine(poly.Add(q, r)))))
		alike("three multiplied", fine(poly.Mul(fine(poly.Mul(p, q)), r)), fine(poly.Mul(p, fine(poly.Mul(q, r)))))
		alike("a sum multiplied", fine(poly.Mul(fine(poly.Add(p, q)), r)), fine(poly.Add(fine(poly.Mul(p, r)), fine(poly.Mul(q, r)))))
		alike("a difference", fine(poly.Sub(p, q)), fine(poly.Add(p, fine(poly.Neg(q)))))
		alike("0 and 1", fine(poly.Add(p, nil)), fine(poly.Mul(p, ints(1))))
		alike("a product's derivative", fine(poly.Der(fine(poly.Mul(p, q)))), fine(poly.Add(fine(poly.Mul(fine(poly.Der(p)), q)), fine(poly.Mul(p, fine(poly.Der(q)))))))
		keepsValues(t, p, q, fraction(m.rational()))
		a, b := fine(poly.Mul(p, r)), fine(poly.Mul(q, r))
		g := fine(poly.Gcd(a, b))
		alike("a divisor turned", g, fine(poly.Gcd(b, a)))
		if len(g) == 0 {
			continue
		}
		left, right := fine(poly.Exact(a, g)), fine(poly.Exact(b, g))
		alike("what is left", fine(poly.Gcd(left, right)), ints(1))
		alike("content by part", a, fine(poly.Mul(left, g)))
		if len(r) > 0 {
			fine(poly.Exact(g, r))
		}
	}
}

func keepsValues(t *testing.T, p, q api.Poly, x api.Rat) {
	t.Helper()
	value := func(p api.Poly, e api.Errno) api.Rat {
		v, f := poly.Eval(p, x)
		if e != api.OK || f != api.OK {
			t.Fatal(e, f)
		}
		return v
	}
	v, w := value(p, api.OK), value(q, api.OK)
	sum, _ := rat.Add(v, w)
	product, _ := rat.Mul(v, w)
	if !reflect.DeepEqual(value(poly.Add(p, q)), sum) || !reflect.DeepEqual(value(poly.Mul(p, q)), product) {
		t.Fatalf("values of %s and %s at %s", text(p), text(q), rat.Text(x))
	}
}

package span_test

import (
	"math"
	ref "math/big"
	"math/rand/v2"
	"reflect"
	"testing"

	"terrace/api"
	"terrace/big"
	"terrace/rat"
	"terrace/span"
)

// pair is an interval of the reference.
type pair struct{ lo, hi *ref.Rat }

func (p pair) String() string { return "[" + p.lo.RatString() + ", " + p.hi.RatString() + "]" }

func (p pair) has(x *ref.Rat) bool { return p.lo.Cmp(x) <= 0 && x.Cmp(p.hi) <= 0 }

// hull is the least interval that has all of xs.
func hull(xs ...*ref.Rat) pair {
	p := pair{xs[0], xs[0]}
	for _, x := range xs {
		if x.Cmp(p.lo) < 0 {
			p.lo = x
		}
		if x.Cmp(p.hi) > 0 {
			p.hi = x
		}
	}
	return p
}

func sum(x, y *ref.Rat) *ref.Rat     { return new(ref.Rat).Add(x, y) }
func less(x, y *ref.Rat) *ref.Rat    { return new(ref.Rat).Sub(x, y) }
func product(x, y *ref.Rat) *ref.Rat { return new(ref.Rat).Mul(x, y) }

func power(x *ref.Rat, n int) *ref.Rat {
	p := ref.NewRat(1, 1)
	for range n {
		p.Mul(p, x)
	}
	return p
}

// corners are what op makes of the ends: where op is monotonous in each argument, its extremes are among them.
func corners(op func(x, y *ref.Rat) *ref.Rat, s, t pair) pair {
	return hull(op(s.lo, t.lo), op(s.lo, t.hi), op(s.hi, t.lo), op(s.hi, t.hi))
}

// maker makes intervals of all kinds: points, with 0 inside, with 0 at an end, dyadic, whole, with long numbers.
type maker struct{ *rand.Rand }

func newMaker() maker { return maker{rand.New(rand.NewPCG(5, 6))} }

func (m maker) magnitude() *ref.Int {
	switch m.IntN(6) {
	case 0:
		return ref.NewInt(1)
	case 1:
		return new(ref.Int).Lsh(ref.NewInt(1), uint(m.IntN(150)))
	case 2:
		x := new(ref.Int).SetUint64(math.MaxUint64)
		return x.Mul(x, new(ref.Int).SetUint64(m.Uint64()|1))
	}
	return ref.NewInt(1 + m.Int64N(12))
}

func (m maker) number() *ref.Rat {
	if m.IntN(6) == 0 {
		return new(ref.Rat)
	}
	n := m.magnitude()
	if m.IntN(2) == 0 {
		n.Neg(n)
	}
	return new(ref.Rat).SetFrac(n, m.magnitude())
}

func (m maker) interval() pair {
	x := m.number()
	switch m.IntN(8) {
	case 0:
		return pair{x, x}
	case 1:
		return hull(x, new(ref.Rat).Neg(x))
	}
	return hull(x, m.number())
}

// inside makes a number of p: an end, its middle, 0 if p has it, or some other one.
func (m maker) inside(p pair) *ref.Rat {
	switch m.IntN(5) {
	case 0:
		return p.lo
	case 1:
		return p.hi
	case 2:
		if zero := new(ref.Rat); p.has(zero) {
			return zero
		}
	}
	d := 1 + m.Int64N(50)
	return sum(p.lo, product(less(p.hi, p.lo), ref.NewRat(m.Int64N(d+1), d)))
}

func (m maker) within(p pair) pair { return hull(m.inside(p), m.inside(p)) }

func limbs(x *ref.Int) api.Nat {
	var out api.Nat
	for _, w := range x.Bits() {
		out = append(out, uint64(w))
	}
	return out
}

func num(x *ref.Rat) api.Rat {
	return api.Rat{Num: api.Int{Neg: x.Sign() < 0, Mag: limbs(x.Num())}, Den: limbs(x.Denom())}
}

func of(p pair) api.Span { return api.Span{Lo: num(p.lo), Hi: num(p.hi)} }

func parse(t *testing.T, s string) api.Rat {
	t.Helper()
	a, e := rat.Parse(s)
	if e != api.OK {
		t.Fatalf("Parse(%q): %d", s, e)
	}
	return a
}

func interval(t *testing.T, lo, hi string) api.Span {
	t.Helper()
	return api.Span{Lo: parse(t, lo), Hi: parse(t, hi)}
}

type answer struct {
	s api.Span
	e api.Errno
}

func told(s api.Span, e api.Errno) answer { return answer{s, e} }

func same(t *testing.T, what string, got answer, want pair) {
	t.Helper()
	if !reflect.DeepEqual(got, answer{of(want), api.OK}) {
		t.Fatalf("%s: got [%s, %s], %d, want %v", what, rat.Text(got.s.Lo), rat.Text(got.s.Hi), got.e, want)
	}
}

// noRationals are values that are no rationals.
func noRationals() []api.Rat {
	return []api.Rat{
		{},
		{Num: big.From(1)},
		{Num: big.From(1), Den: api.Nat{}},
		{Num: big.From(2), Den: api.Nat{4}},
		{Num: big.From(1), Den: api.Nat{2, 0}},
		{Num: api.Int{}, Den: api.Nat{3}},
		{Num: api.Int{Neg: true}, Den: api.Nat{1}},
		{Num: api.Int{Mag: api.Nat{5, 0}}, Den: api.Nat{1}},
	}
}

// none are values that are no intervals.
func none(t *testing.T) []api.Span {
	out := []api.Span{
		{},
		interval(t, "1", "0"),
		interval(t, "2", "-2"),
		interval(t, "1/2", "1/3"),
		interval(t, "-1/3", "-1/2"),
		interval(t, "18446744073709551617/18446744073709551616", "1"),
		interval(t, "18446744073709551616", "18446744073709551615"),
	}
	for _, a := range noRationals() {
		out = append(out, api.Span{Lo: a, Hi: parse(t, "7")}, api.Span{Lo: parse(t, "-7"), Hi: a}, api.Span{Lo: a, Hi: a})
	}
	return out
}

// P3.1: what is an interval, and what is none.
func TestCheck(t *testing.T) {
	for _, s := range none(t) {
		if e := span.Check(s); e != api.ErrSpanForm {
			t.Errorf("Check(%v): %d", s, e)
		}
	}
	for _, s := range []api.Span{
		interval(t, "0", "0"), interval(t, "-1", "1"), interval(t, "1/3", "1/2"), interval(t, "-1/2", "-1/3"), interval(t, "5/7", "5/7"),
		interval(t, "1", "18446744073709551617/18446744073709551616"),
		{Lo: api.Rat{Num: api.Int{Mag: api.Nat{}}, Den: api.Nat{1}}, Hi: api.Rat{Den: api.Nat{1}}},
	} {
		if e := span.Check(s); e != api.OK {
			t.Errorf("Check(%v): %d", s, e)
		}
	}
	m := newMaker()
	for range 2000 {
		x, y := m.number(), m.number()
		want := api.OK
		if x.Cmp(y) > 0 {
			want = api.ErrSpanForm
		}
		if e := span.Check(api.Span{Lo: num(x), Hi: num(y)}); e != want {
			t.Fatalf("Check(%v, %v): %d", x, y, e)
		}
	}
}

// P3.1: each call tells ErrSpanForm of what is no interval, with zero values beside it.
func TestNoneOfEachCall(t *testing.T) {
	good := interval(t, "-1", "5/3")
	for _, bad := range none(t) {
		for i, got := range []answer{
			told(span.Add(bad, good)), told(span.Add(good, bad)), told(span.Sub(bad, good)), told(span.Sub(good, bad)),
			told(span.Mul(bad, good)), told(span.Mul(good, bad)), told(span.Mul(bad, bad)), told(span.Neg(bad)),
			told(span.Pow(bad, 0)), told(span.Pow(bad, 1)), told(span.Pow(bad, 2)), told(span.Pow(bad, -1)),
		} {
			if !reflect.DeepEqual(got, answer{e: api.ErrSpanForm}) {
				t.Errorf("call %d of %v: %v", i, bad, got)
			}
		}
		noneOfTheOthers(t, bad, good)
	}
}

func noneOfTheOthers(t *testing.T, bad, good api.Span) {
	t.Helper()
	if has, e := span.Has(bad, good.Lo); has || e != api.ErrSpanForm {
		t.Errorf("Has(%v): %v, %d", bad, has, e)
	}
	if w, e := span.Wide(bad); !reflect.DeepEqual(w, api.Rat{}) || e != api.ErrSpanForm {
		t.Errorf("Wide(%v): %v, %d", bad, w, e)
	}
	if n, e := span.Sign(bad); n != 0 || e != api.ErrSpanForm {
		t.Errorf("Sign(%v): %v, %d", bad, n, e)
	}
	for i, st := range [][2]api.Span{{bad, good}, {good, bad}, {bad, bad}} {
		if m, is, e := span.Meet(st[0], st[1]); is || !reflect.DeepEqual(told(m, e), answer{e: api.ErrSpanForm}) {
			t.Errorf("Meet %d of %v: %v, %v, %d", i, bad, m, is, e)
		}
	}
	a, b, e := span.Halves(bad)
	if !reflect.DeepEqual([]answer{told(a, e), told(b, e)}, []answer{{e: api.ErrSpanForm}, {e: api.ErrSpanForm}}) {
		t.Errorf("Halves(%v): %v, %v, %d", bad, a, b, e)
	}
}

// P3.1: of what is no rational Of and Has tell ErrSpanForm, too.
func TestNoRational(t *testing.T) {
	for _, a := range noRationals() {
		if got := told(span.Of(a)); !reflect.DeepEqual(got, answer{e: api.ErrSpanForm}) {
			t.Errorf("Of(%v): %v", a, got)
		}
		for _, s := range append(none(t), interval(t, "-1", "1")) {
			if has, e := span.Has(s, a); has || e != api.ErrSpanForm {
				t.Errorf("Has(%v, %v): %v, %d", s, a, has, e)
			}
		}
	}
}

// P3.1: Of, Has and Wide.
func TestOfHasWide(t *testing.T) {
	m := newMaker()
	for range 3000 {
		p, x := m.interval(), m.number()
		same(t, "Of", told(span.Of(num(x))), pair{x, x})
		for _, y := range []*ref.Rat{x, p.lo, p.hi, m.inside(p), less(p.lo, ref.NewRat(1, 9)), sum(p.hi, ref.NewRat(1, 9))} {
			if has, e := span.Has(of(p), num(y)); e != api.OK || has != p.has(y) {
				t.Fatalf("Has(%v, %v): %v, %d", p, y, has, e)
			}
		}
		if w, e := span.Wide(of(p)); e != api.OK || !reflect.DeepEqual(w, num(less(p.hi, p.lo))) {
			t.Fatalf("Wide(%v): %v, %d", p, rat.Text(w), e)
		}
	}
}

// P3.2: sums, differences, products and negatives: the least intervals.
func TestReckoned(t *testing.T) {
	m := newMaker()
	for range 4000 {
		p, q := m.interval(), m.interval()
		same(t, "Add", told(span.Add(of(p), of(q))), corners(sum, p, q))
		same(t, "Sub", told(span.Sub(of(p), of(q))), corners(less, p, q))
		same(t, "Mul", told(span.Mul(of(p), of(q))), corners(product, p, q))
		same(t, "Mul by itself", told(span.Mul(of(p), of(p))), corners(product, p, p))
		same(t, "Neg", told(span.Neg(of(p))), pair{new(ref.Rat).Neg(p.hi), new(ref.Rat).Neg(p.lo)})
	}
}

// P3.2: products of each of the ways in which two intervals lie to 0.
func TestMulByPlaceOfZero(t *testing.T) {
	ends := []int64{-3, -2, 0, 0, 1, 4}
	for i, a := range ends {
		for _, b := range ends[i:] {
			for j, c := range ends {
				for _, d := range ends[j:] {
					want := hull(ref.NewRat(a*c, 1), ref.NewRat(a*d, 1), ref.NewRat(b*c, 1), ref.NewRat(b*d, 1))
					p, q := pair{ref.NewRat(a, 1), ref.NewRat(b, 1)}, pair{ref.NewRat(c, 1), ref.NewRat(d, 1)}
					same(t, p.String()+" times "+q.String(), told(span.Mul(of(p), of(q))), want)
				}
			}
		}
	}
}

// P3.2: powers: the least interval; 0 is where an even power turns.
func TestPow(t *testing.T) {
	m := newMaker()
	for i := range 1200 {
		p, n := m.interval(), i%(api.MaxExp+1)
		want := hull(power(p.lo, n), power(p.hi, n))
		if zero := new(ref.Rat); p.has(zero) {
			want = hull(want.lo, want.hi, power(zero, n))
		}
		same(t, p.String(), told(span.Pow(of(p), n)), want)
	}
	for _, s := range []api.Span{interval(t, "0", "0"), interval(t, "-3", "2"), interval(t, "-3", "-2"), interval(t, "2", "3")} {
		same(t, "0th power", told(span.Pow(s, 0)), pair{ref.NewRat(1, 1), ref.NewRat(1, 1)})
	}
}

// P3.2: an exponent that may not be.
func TestPowRefused(t *testing.T) {
	for _, n := range []int{-1, -2, -api.MaxExp, api.MaxExp + 1, math.MaxInt, math.MinInt, 1 << 32, -1 << 32} {
		for _, s := range []api.Span{interval(t, "0", "0"), interval(t, "1", "1"), interval(t, "-2", "3")} {
			if got := told(span.Pow(s, n)); !reflect.DeepEqual(got, answer{e: api.ErrSpanForm}) {
				t.Errorf("Pow(%v, %d): %v", s, n, got)
			}
		}
	}
	for _, n := range []int{0, 1, api.MaxExp - 1, api.MaxExp} {
		if got := told(span.Pow(interval(t, "0", "1"), n)); got.e != api.OK {
			t.Errorf("Pow of %d: %d", n, got.e)
		}
	}
}

// P3.3: Sign.
func TestSign(t *testing.T) {
	for _, c := range []struct {
		lo, hi string
		want   int
	}{
		{"1/2", "3", 1}, {"1/99999999999999999999999", "1/99999999999999999999999", 1}, {"-3", "-1", -1}, {"-1/7", "-1/7", -1},
		{"0", "0", 0}, {"0", "1", 2}, {"-1", "0", 2}, {"-1", "1", 2}, {"-1/9", "100", 2},
	} {
		if n, e := span.Sign(interval(t, c.lo, c.hi)); e != api.OK || n != c.want {
			t.Errorf("Sign([%s, %s]): %d, %d", c.lo, c.hi, n, e)
		}
	}
}

// P3.3: Meet.
func TestMeet(t *testing.T) {
	m := newMaker()
	for range 4000 {
		p, q := m.interval(), m.interval()
		switch m.IntN(4) {
		case 0:
			q = hull(p.hi, m.number())
		case 1:
			q = m.within(p)
		}
		want := pair{hull(p.lo, q.lo).hi, hull(p.hi, q.hi).lo}
		got, is, e := span.Meet(of(p), of(q))
		if apart := want.lo.Cmp(want.hi) > 0; apart {
			if is || !reflect.DeepEqual(told(got, e), answer{}) {
				t.Fatalf("Meet(%v, %v): %v, %v, %d", p, q, got, is, e)
			}
			continue
		}
		same(t, p.String()+" and "+q.String(), told(got, e), want)
		if !is {
			t.Fatalf("Meet(%v, %v): none", p, q)
		}
	}
}

// P3.3: Halves.
func TestHalves(t *testing.T) {
	m := newMaker()
	for range 2000 {
		p := m.interval()
		middle := product(sum(p.lo, p.hi), ref.NewRat(1, 2))
		a, b, e := span.Halves(of(p))
		same(t, "lower half", told(a, e), pair{p.lo, middle})
		same(t, "upper half", told(b, e), pair{middle, p.hi})
	}
}

func lies(t *testing.T, what string, s api.Span, x *ref.Rat) {
	t.Helper()
	if has, e := span.Has(s, num(x)); !has || e != api.OK {
		t.Fatalf("%s: %v is not in [%s, %s]", what, x, rat.Text(s.Lo), rat.Text(s.Hi))
	}
}

// P3.4: an operation of numbers of s and t is in the operation of s and t.
func TestNumbersInside(t *testing.T) {
	m := newMaker()
	for range 3000 {
		p, q, n := m.interval(), m.interval(), m.IntN(12)
		x, y := m.inside(p), m.inside(q)
		lies(t, "Add", told(span.Add(of(p), of(q))).s, sum(x, y))
		lies(t, "Sub", told(span.Sub(of(p), of(q))).s, less(x, y))
		lies(t, "Mul", told(span.Mul(of(p), of(q))).s, product(x, y))
		lies(t, "Neg", told(span.Neg(of(p))).s, new(ref.Rat).Neg(x))
		lies(t, "Pow", told(span.Pow(of(p), n)).s, power(x, n))
		if sign, _ := span.Sign(of(p)); sign != 2 && sign != x.Sign() {
			t.Fatalf("Sign(%v): %d", p, sign)
		}
	}
}

// P3.4: smaller intervals give no greater ones.
func TestSmallerIntervals(t *testing.T) {
	m := newMaker()
	for range 3000 {
		p, q, n := m.interval(), m.interval(), m.IntN(12)
		p1, q1 := m.within(p), m.within(q)
		for i, c := range [][2]answer{
			{told(span.Add(of(p1), of(q1))), told(span.Add(of(p), of(q)))},
			{told(span.Sub(of(p1), of(q1))), told(span.Sub(of(p), of(q)))},
			{told(span.Mul(of(p1), of(q1))), told(span.Mul(of(p), of(q)))},
			{told(span.Neg(of(p1))), told(span.Neg(of(p)))},
			{told(span.Pow(of(p1), n)), told(span.Pow(of(p), n))},
		} {
			both, is, e := span.Meet(c[0].s, c[1].s)
			if !is || e != api.OK || !reflect.DeepEqual(both, c[0].s) {
				t.Fatalf("call %d of %v in %v, %v in %v: not within", i, p1, p, q1, q)
			}
		}
	}
}

// The chapter's examples.
func TestExamples(t *testing.T) {
	product, _ := span.Mul(interval(t, "-1", "2"), interval(t, "3", "4"))
	square, _ := span.Pow(interval(t, "-2", "1"), 2)
	sign, _ := span.Sign(interval(t, "0", "1"))
	if !reflect.DeepEqual(product, interval(t, "-4", "8")) || !reflect.DeepEqual(square, interval(t, "0", "4")) || sign != 2 {
		t.Errorf("%v, %v, %d", product, square, sign)
	}
}

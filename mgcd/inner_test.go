package mgcd

import (
	"math/rand/v2"
	"slices"
	"testing"

	"terrace/big"
)

func randomMono(r *rand.Rand, most int) (m mono, d degrees) {
	for v := range d {
		d[v] = r.IntN(most + 1)
		m = m.times(power(v, d[v]))
	}
	return m, d
}

// Products, quotients, order and divisibility are those of the exponents one by one, up to what they may be on the way.
func TestMono(t *testing.T) {
	r := rand.New(rand.NewPCG(8, 0))
	for range 3000 {
		most := []int{1, 3, 1 << 10, 1<<14 - 1}[r.IntN(4)]
		m, d := randomMono(r, most)
		n, e := randomMono(r, most)
		divides, order := true, 0
		for v := range d {
			divides = divides && d[v] <= e[v]
			if d[v] != e[v] {
				order = min(1, max(-1, d[v]-e[v]))
			}
			if m.exp(v) != d[v] || m.times(n).exp(v) != d[v]+e[v] || m.times(n).over(n) != m || lesser(m, n).exp(v) != min(d[v], e[v]) {
				t.Fatalf("%v, %v: variable %d", d, e, v)
			}
			if m.only(set(v)) != power(v, d[v]) || m.without(set(v)).times(power(v, d[v])) != m {
				t.Fatalf("%v: variable %d alone", d, v)
			}
		}
		if m.divides(n) != divides || m.compare(n) != order || !m.divides(m.times(n)) {
			t.Fatalf("%v, %v: %t, %d", d, e, m.divides(n), m.compare(n))
		}
	}
}

// thrown tells what f throws.
func thrown(f func()) (what any) {
	defer func() { what = recover() }()
	f()
	return nil
}

// Of sums of powers of nodes the law and the system of equations tell which nodes they are, and with what numbers.
func TestLaws(t *testing.T) {
	r := rand.New(rand.NewPCG(8, 9))
	s := (&luck{}).next()
	for range 300 {
		nodes, numbers := make([]uint64, 1+r.IntN(12)), []uint64{}
		var want []int
		for e := range nodes {
			nodes[e] = s.Power(s.at[0], uint64(e))
			numbers = append(numbers, 0)
			if r.IntN(4) == 0 {
				numbers[e] = s.Of(big.From(r.Int64() - r.Int64()))
				want = append(want, e)
			}
		}
		powers := slices.Clone(nodes)
		var w law
		for range 2*len(nodes) + 1 {
			w.take(s.field, s.dot(numbers, powers))
			for e := range powers {
				powers[e] = s.Times(powers[e], nodes[e])
			}
		}
		if got := w.exponents(s.field, nodes); !w.settled() || !slices.Equal(got, want) {
			t.Fatalf("%v, want %v", got, want)
		}
		if got := s.solved(nodes, [][]uint64{w.list[:len(nodes)]}); !slices.Equal(got[0], numbers) {
			t.Fatalf("%v, want %v", got, numbers)
		}
	}
	twice := []uint64{s.at[0], s.at[1], s.at[0]}
	if what := thrown(func() { s.solved(twice, [][]uint64{{1, 2, 3}}) }); what != (unlucky{}) {
		t.Errorf("nodes that are alike: %v", what)
	}
	strange := law{list: []uint64{1}, now: []uint64{s.One(), s.at[3]}, long: 1}
	if what := thrown(func() { strange.exponents(s.field, twice) }); what != (unlucky{}) {
		t.Errorf("a node that is none of them: %v", what)
	}
}

// short makes a sum of x^i y^j: coefficients in rows of i, one for each j.
func short(rows ...[]int64) sum {
	var s sum
	for j, row := range rows {
		for i, c := range row {
			s = append(s, term{at: power(0, i).times(power(1, j)), coef: big.From(c)})
		}
	}
	return gathered(s)
}

// What is thrown where a pseudo-remainder is a constant does not get out; modulo a prime that divides a lead, luck is bad.
func TestSharedDegree(t *testing.T) {
	s := (&luck{}).next()
	image := func(c ...int64) []uint64 {
		var out []uint64
		for _, n := range c {
			out = append(out, s.Of(big.From(n)))
		}
		return out
	}
	for _, c := range []struct {
		a, b []int64
		want int
	}{
		{[]int64{1, 1}, []int64{2, 1}, 0}, {[]int64{-1, 0, 1}, []int64{1, 2, 1}, 1}, {[]int64{3}, []int64{0, 1}, 0}, {[]int64{0, 1}, []int64{3}, 0}, {[]int64{2, 3, 1}, []int64{4, 6, 2}, 2}, {[]int64{1, 0, 0, 0, 0, 1}, []int64{5, 7, 1}, 0}, {[]int64{-1, 0, 0, 0, 0, 0, 1}, []int64{-1, 0, 0, 0, 7}, 0}, {[]int64{-1, 0, 0, 0, 0, 0, 1}, []int64{-1, 0, 0, 0, 1}, 2},
	} {
		if got := s.sharedDegree(image(c.a...), image(c.b...)); got != c.want {
			t.Errorf("%v, %v: %d", c.a, c.b, got)
		}
	}
	if what := thrown(func() { s.lastRest(image(1, 1), image(2, 1)) }); what != (coprime{}) {
		t.Errorf("lastRest throws %v", what)
	}
	a, b := short([]int64{1, 1}, []int64{1}), short([]int64{1, 2}, []int64{3})
	a[0].coef = s.Prime()
	if what := thrown(func() { s.sharedDegrees(a, b) }); what != (unlucky{}) {
		t.Errorf("a lead that is 0 throws %v", what)
	}
	if got := shared(a, b); !isNumber(got) {
		t.Errorf("%v", got)
	}
}

// Whatever is sought, by whatever variable, the divisor is the same.
func TestPlans(t *testing.T) {
	g, p, q := short([]int64{3, 0, 1}, []int64{2, 5}, []int64{0, 1}), short([]int64{1, 1}, []int64{-4}), short([]int64{7}, []int64{1, 0, 2})
	idle := short([]int64{-1, 1})
	a, b := product(product(g, p), idle), product(product(g, q), product(idle, idle))
	both := (&luck{}).next().sharedDegrees(a, b)
	want := positive(product(g, idle))
	for x := range 2 {
		for _, plan := range []*plan{{a: a, b: b, x: x}, {a: b, b: a, x: x}, {a: a, b: b, x: x, rest: true}, {a: b, b: a, x: x, rest: true}} {
			plan.prepare(both)
			got := plan.divisor(&luck{})
			if !slices.EqualFunc(got, want, func(t, u term) bool { return t.at == u.at && big.Cmp(t.coef, u.coef) == 0 }) {
				t.Errorf("by %d, %t: %v", x, plan.rest, got)
			}
		}
	}
	poor := planned(a, b, both)
	spot := (&luck{}).next()
	spot.at[0], spot.at[1] = 0, 0
	if what := thrown(func() { poor.support(spot) }); what != (unlucky{}) {
		t.Errorf("a spot where all is alike throws %v", what)
	}
	wrong := both
	wrong[0]++
	if what := thrown(func() { planned(a, b, wrong).divisor(&luck{}) }); what != (unlucky{}) && what != (coprime{}) {
		t.Errorf("degrees that are too high throw %v", what)
	}
}

// mayDivide refuses what does not divide in one of the variables, or by numbers, alone.
func TestMayDivide(t *testing.T) {
	a, b := short([]int64{1, 1}), short([]int64{1}, []int64{1})
	both := product(a, b)
	six, four := constant(big.From(6)), constant(big.From(4))
	prime := constant((&luck{}).next().Prime()) // by which all is 0 at the first spot
	for i, c := range []struct {
		b, a sum
		want bool
	}{
		{a, both, true}, {b, both, true}, {both, both, true}, {product(a, a), both, false}, {product(b, b), both, false}, {both, a, false}, {product(four, a), product(six, both), false}, {product(constant(big.From(-2)), a), product(six, both), true}, {four, six, false}, {a, product(b, b), false},
		{product(prime, a), product(prime, both), true}, {product(prime, a), product(prime, b), false}, {product(prime, a), both, false},
	} {
		if got := mayDivide(c.b, c.a); got != c.want {
			t.Errorf("%d: %t", i, got)
		}
	}
}

// A quotient stops at the length that is asked for; what is longer than all that is worked with is thrown.
func TestQuotientLimit(t *testing.T) {
	line := func(n int) sum { return short(slices.Repeat([]int64{1}, n)) }
	long1 := sum{{at: power(0, 1000), coef: big.From(1)}, {coef: big.From(-1)}}
	by := sum{{at: power(0, 1), coef: big.From(1)}, {coef: big.From(-1)}}
	if q, how := quotient(long1, by, 1000); how != even || len(q) != 1000 {
		t.Errorf("%d terms, %d", len(q), how)
	}
	if q, how := quotient(long1, by, 999); how != long || q != nil {
		t.Errorf("%d terms, %d", len(q), how)
	}
	if q, how := quotient(product(line(30), line(40)), line(30), 40); how != even || len(q) != 40 {
		t.Errorf("%d terms, %d", len(q), how)
	}
	plane := product(long1, sum{{at: power(1, 1000), coef: big.From(1)}, {coef: big.From(-1)}})
	if what := thrown(func() { exactly(plane, short([]int64{1, -1}, []int64{-1, 1})) }); what != (endless{}) {
		t.Errorf("too long throws %v", what)
	}
	if what := thrown(func() { product(line(5000), line(5000)) }); what != (endless{}) {
		t.Errorf("too wide throws %v", what)
	}
	if what := thrown(func() { exactly(plane, short([]int64{2, 1})) }); what != (unlucky{}) {
		t.Errorf("no quotient throws %v", what)
	}
}

// A mixture has no divisor that not all have, and no term but 1 divides it.
func TestMixture(t *testing.T) {
	a, b, c := short([]int64{1, 1}), short([]int64{2, 1}), short([]int64{3, 1})
	m := (&luck{}).mixture([]sum{product(a, b), product(b, c), product(c, a)})
	if d := single(m); !isOne(d.coef) || d.at != (mono{}) {
		t.Errorf("%v", d)
	}
	for i, s := range []sum{a, b, c} {
		if divides(s, m) {
			t.Errorf("%d divides", i)
		}
	}
}

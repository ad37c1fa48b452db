package mgcd

import (
	"math"
	"math/rand/v2"
	"slices"
	"testing"

	"terrace/api"
	"terrace/big"
	"terrace/residue"
)

func randomMono(r *rand.Rand, most int) (m mono, d degrees) {
	for v := range d {
		d[v] = r.IntN(most + 1)
		m = m.times(power(v, d[v]))
	}
	return m, d
}

// Products, quotients, order and divisibility are those of the exponents one by one, up to what they may be on the way.
func TestMono(t *testing.T) {
	r := rand.New(rand.NewPCG(8, 0))
	for range 3000 {
		most := []int{1, 3, 1 << 10, highest - 1}[r.IntN(4)]
		m, d := randomMono(r, most)
		n, e := randomMono(r, most)
		divides, order := true, 0
		for v := range d {
			divides = divides && d[v] <= e[v]
			if d[v] != e[v] {
				order = min(1, max(-1, d[v]-e[v]))
			}
			if m.exp(v) != d[v] || m.times(n).exp(v) != d[v]+e[v] || m.times(n).over(n) != m || lesser(m, n).exp(v) != min(d[v], e[v]) {
				t.Fatalf("%v, %v: variable %d", d, e, v)
			}
			if m.only(set(v)) != power(v, d[v]) || m.without(set(v)).times(power(v, d[v])) != m {
				t.Fatalf("%v: variable %d alone", d, v)
			}
		}
		if m.divides(n) != divides || m.compare(n) != order || !m.divides(m.times(n)) {
			t.Fatalf("%v, %v: %t, %d", d, e, m.divides(n), m.compare(n))
		}
		if m.place() != vector(d) || m.place().mono() != m {
			t.Fatalf("%v: %v", d, m.place())
		}
	}
}

// thrown tells what f throws.
func thrown(f func()) (what any) {
	defer func() { what = recover() }()
	f()
	return nil
}

// Of sums of powers of nodes the law and the system of equations tell which nodes they are, and with what numbers.
func TestLaws(t *testing.T) {
	r := rand.New(rand.NewPCG(8, 9))
	s := lucky().next()
	for range 300 {
		nodes, numbers := make([]uint64, 1+r.IntN(12)), []uint64{}
		var want []int
		for e := range nodes {
			nodes[e] = s.Power(s.at[0], uint64(e))
			numbers = append(numbers, 0)
			if r.IntN(4) == 0 {
				numbers[e] = s.Of(big.From(r.Int64() - r.Int64()))
				want = append(want, e)
			}
		}
		powers := slices.Clone(nodes)
		var w residue.Law
		for range 2*len(nodes) + 1 {
			w.Take(s.Field, s.Dot(numbers, powers))
			for e := range powers {
				powers[e] = s.Times(powers[e], nodes[e])
			}
		}
		if got := s.lawful(nodes, w); !w.Settled() || !slices.Equal(got, want) {
			t.Fatalf("%v, want %v", got, want)
		}
		if got := s.solved(nodes, [][]uint64{w.List[:len(nodes)]}); !slices.Equal(got[0], numbers) {
			t.Fatalf("%v, want %v", got, numbers)
		}
	}
	twice := []uint64{s.at[0], s.at[1], s.at[0]}
	if what := thrown(func() { s.solved(twice, [][]uint64{{1, 2, 3}}) }); what != (unlucky{}) {
		t.Errorf("nodes that are alike: %v", what)
	}
	strange := residue.Law{List: []uint64{1}, Now: []uint64{s.One(), s.at[3]}, Long: 1}
	if what := thrown(func() { s.lawful(twice, strange) }); what != (unlucky{}) {
		t.Errorf("a node that is none of them: %v", what)
	}
}

// short makes a sum of x^i y^j: coefficients in rows of i, one for each j.
func short(rows ...[]int64) sum {
	var s sum
	for j, row := range rows {
		for i, c := range row {
			s = append(s, term{at: power(0, i).times(power(1, j)), coef: big.From(c)})
		}
	}
	return gathered(s)
}

// What is thrown where a pseudo-remainder is a constant does not get out; modulo a prime that divides a lead, luck is bad.
func TestSharedDegree(t *testing.T) {
	s := lucky().next()
	image := func(c ...int64) []uint64 {
		var out []uint64
		for _, n := range c {
			out = append(out, s.Of(big.From(n)))
		}
		return out
	}
	for _, c := range []struct {
		a, b []int64
		want int
	}{
		{[]int64{1, 1}, []int64{2, 1}, 0}, {[]int64{-1, 0, 1}, []int64{1, 2, 1}, 1}, {[]int64{3}, []int64{0, 1}, 0}, {[]int64{0, 1}, []int64{3}, 0}, {[]int64{2, 3, 1}, []int64{4, 6, 2}, 2}, {[]int64{1, 0, 0, 0, 0, 1}, []int64{5, 7, 1}, 0}, {[]int64{-1, 0, 0, 0, 0, 0, 1}, []int64{-1, 0, 0, 0, 7}, 0}, {[]int64{-1, 0, 0, 0, 0, 0, 1}, []int64{-1, 0, 0, 0, 1}, 2},
	} {
		if got := s.sharedDegree(image(c.a...), image(c.b...)); got != c.want {
			t.Errorf("%v, %v: %d", c.a, c.b, got)
		}
	}
	if what := thrown(func() { s.lastRest(image(1, 1), image(2, 1)) }); what != (coprime{}) {
		t.Errorf("lastRest throws %v", what)
	}
	a, b := short([]int64{1, 1}, []int64{1}), short([]int64{1, 2}, []int64{3})
	a[0].coef = s.Prime()
	if what := thrown(func() { s.sharedDegrees(a, b) }); what != (unlucky{}) {
		t.Errorf("a lead that is 0 throws %v", what)
	}
}

// Whatever is sought, by whatever variable, the divisor is the same.
func TestPlans(t *testing.T) {
	g, p, q := short([]int64{3, 0, 1}, []int64{2, 5}, []int64{0, 1}), short([]int64{1, 1}, []int64{-4}), short([]int64{7}, []int64{1, 0, 2})
	idle := short([]int64{-1, 1})
	a, b := product(product(g, p), idle), product(product(g, q), product(idle, idle))
	degrees := lucky(a, b).next().sharedDegrees(a, b)
	want := positive(product(g, idle))
	h := hunt{shortest}
	for x := range 2 {
		for _, by := range []aim{byBoth, byOne, leftOf} {
			for _, p := range []plan{{a: a, b: b, by: by, x: x}, {a: b, b: a, by: by, x: x}} {
				got := h.follow(&p, lucky(a, b), degrees)
				if !isUnit(got.den) || positive(got.num).compare(want) != 0 {
					t.Errorf("by %d, %d: %v", x, by, got)
				}
			}
		}
	}
	list := plans(a, b, degrees)
	if len(list) != 5 || !slices.IsSortedFunc(list, func(p, q *plan) int { return p.cost(degrees) - q.cost(degrees) }) {
		t.Errorf("%d plans", len(list))
	}
	spot := lucky().next()
	spot.at[0], spot.at[1] = 0, 0
	h.prepare(list[0], degrees)
	if what := thrown(func() { h.support(list[0], spot) }); what != (unlucky{}) {
		t.Errorf("a spot where all is alike throws %v", what)
	}
	wrong := degrees
	wrong[0]++
	for _, p := range plans(a, b, wrong) {
		if what := thrown(func() { h.follow(p, lucky(), wrong) }); what != (unlucky{}) && what != (coprime{}) {
			t.Errorf("degrees that are too high throw %v", what)
		}
	}
}

// Where a number of what is sought is 0 modulo the prime that tells the support, the next prime shows it.
func TestMissingNumber(t *testing.T) {
	l := lucky()
	s := l.next()
	g, p, q := short([]int64{7, 1}, []int64{1}), short([]int64{3, 1}, []int64{1}), short([]int64{4, 1}, []int64{2})
	g[0].coef = s.Prime()
	a, b := product(g, p), product(g, q)
	plan := &plan{a: a, b: b, by: byBoth, x: 0}
	h := hunt{shortest}
	h.prepare(plan, degrees{1, 1})
	where := h.support(plan, s)
	for range 5 {
		s = l.next()
		c := plan.courses(s, set(plan.others...), set(plan.others...))
		numbers := plan.coefficients(s, where, c)
		if what := thrown(func() { plan.check(s, where, numbers, c) }); what != (unlucky{}) {
			t.Errorf("a number that is missing throws %v", what)
		}
	}
	if got := h.shared(a, b); !isUnit(got.den) || positive(got.num).compare(positive(g)) != 0 {
		t.Errorf("%v", got)
	}
}

// mayDivide refuses what does not divide in one of the variables, or by numbers, alone.
func TestMayDivide(t *testing.T) {
	a, b := short([]int64{1, 1}), short([]int64{1}, []int64{1})
	both := product(a, b)
	six, four := constant(big.From(6)), constant(big.From(4))
	for i, c := range []struct {
		b, a sum
		want bool
	}{
		{a, both, true}, {b, both, true}, {both, both, true}, {product(a, a), both, false}, {product(b, b), both, false}, {both, a, false}, {product(four, a), product(six, both), false}, {product(constant(big.From(-2)), a), product(six, both), true}, {four, six, false}, {a, product(b, b), false},
	} {
		if got := mayDivide(c.b, c.a); got != c.want {
			t.Errorf("%d: %t", i, got)
		}
	}
}

// Luck hangs on each part of all that is asked about, and is the same each time.
func TestLucky(t *testing.T) {
	a, b := short([]int64{1, 1}), short([]int64{1}, []int64{1})
	seen := make(map[uint64]int)
	for i, list := range [][]sum{{}, {a}, {b}, {a, b}, {b, a}, {product(a, b)}, {short([]int64{1, 2})}, {short([]int64{2, 1})}, {constant(api.Int{Mag: api.Nat{1, 1}})}} {
		l, again := lucky(list...), lucky(list...)
		number, first := again.Number(), l.Number()
		if number != first || l.next().at != again.next().at {
			t.Errorf("%d is another one the second time", i)
		}
		if seen[number]++; seen[number] > 1 {
			t.Errorf("%d is like another one", i)
		}
	}
}

func line1(n int) sum { return short(slices.Repeat([]int64{1}, n)) }

// less1 makes the n-th power of v, less 1.
func less1(v, n int) sum {
	return sum{{at: power(v, n), coef: big.From(1)}, {coef: big.From(-1)}}
}

// A quotient stops at the length that is asked for; a hunt throws what is longer than all that it works with.
func TestQuotientLimit(t *testing.T) {
	if q, how := quotient(less1(0, 1000), less1(0, 1), 1000); how != even || len(q) != 1000 {
		t.Errorf("%d terms, %d", len(q), how)
	}
	if q, how := quotient(less1(0, 1000), less1(0, 1), 999); how != open || q != nil {
		t.Errorf("%d terms, %d", len(q), how)
	}
	if q, how := quotient(product(line1(30), line1(40)), line1(30), 40); how != even || len(q) != 40 {
		t.Errorf("%d terms, %d", len(q), how)
	}
	h := hunt{shortest}
	plane := ratio{product(less1(0, 100), less1(1, 100)), product(less1(0, 1), less1(1, 1))}
	if what := thrown(func() { h.written(plane) }); what != (endless{}) {
		t.Errorf("too long throws %v", what)
	}
	if got := (hunt{longest}).written(plane); len(got) != 10000 {
		t.Errorf("%d terms", len(got))
	}
	for _, c := range [][2]sum{{line1(5000), line1(5000)}, {less1(3, highest), less1(3, 1)}} {
		if what := thrown(func() { h.product(c[0], c[1]) }); what != (endless{}) {
			t.Errorf("a product without room throws %v", what)
		}
	}
	if what := thrown(func() { h.stretched(whole(less1(0, 100)), degrees{highest/100 + 1}) }); what != (endless{}) {
		t.Errorf("exponents without room throw %v", what)
	}
	r := rand.New(rand.NewPCG(8, 2))
	g := randomSum(r, 3, 9, 4, 9)
	list := []sum{product(g, randomSum(r, 3, 9, 4, 9)), product(g, randomSum(r, 3, 9, 4, 9))}
	if g, ok := met(func() ratio { return hunt{1}.common(list) }); ok {
		t.Errorf("a hunt for less than there is meets %v", g)
	}
	if d, ok := met(func() ratio { return hunt{shortest}.common(list) }); !ok || !divides(g, d.num) {
		t.Errorf("%t, %v", ok, d)
	}
}

// A division that keeps nothing ends as one that keeps all.
func TestKeep(t *testing.T) {
	r := rand.New(rand.NewPCG(8, 3))
	for range 300 {
		a, b := randomSum(r, 2, 1+r.IntN(60), 12, 9), randomSum(r, 2, 1+r.IntN(5), 9, 3)
		if len(b) == 0 {
			continue
		}
		for _, s := range []sum{a, product(a, b), append(product(a, b), term{coef: big.From(7)})} {
			s = gathered(slices.Clone(s))
			_, want := quotient(s, b, math.MaxInt)
			if got := (&division{by: b}).run(s, math.MaxInt); got != want {
				t.Fatalf("%v, %v: %d, want %d", s, b, got, want)
			}
		}
	}
	d := &division{by: less1(0, 1)}
	if how := d.run(product(less1(0, 1000), less1(1, 10)), math.MaxInt); how != even || d.size != 2000 || cap(d.quo) > 4*doubtful {
		t.Errorf("%d: %d terms, %d held", how, d.size, cap(d.quo))
	}
}

func randomSum(r *rand.Rand, vars, terms, most int, size int64) sum {
	var s sum
	for range terms {
		var m mono
		for v := range vars {
			m = m.times(power(v, r.IntN(most+1)))
		}
		s = append(s, term{at: m, coef: big.From(r.Int64N(2*size+1) - size)})
	}
	return gathered(s)
}

// A mixture has no divisor that not all have, and no term but 1 divides it; sums that cancel are not mixed.
func TestMixture(t *testing.T) {
	a, b, c := short([]int64{1, 1}), short([]int64{2, 1}), short([]int64{3, 1})
	m := lucky().mixture([]sum{product(a, b), product(b, c), product(c, a)})
	if d := single(m); !isOne(d.coef) || d.at != (mono{}) {
		t.Errorf("%v", d)
	}
	for i, s := range []sum{a, b, c} {
		if divides(s, m) {
			t.Errorf("%d divides", i)
		}
	}
}

// By pseudo-remainders the same divisor is found as by hunts, however many there are.
func TestPlainly(t *testing.T) {
	for seed := range uint64(100) {
		r := rand.New(rand.NewPCG(seed, 88))
		vars := 1 + r.IntN(4)
		g := randomSum(r, vars, 1+r.IntN(4), 2, 5)
		var list []sum
		for range 1 + r.IntN(3) {
			list = append(list, product(g, randomSum(r, vars, r.IntN(5), 2, 5)))
		}
		want, ok := met(func() ratio { return hunt{shortest}.common(list) })
		if got := plainly(list); !ok || !isUnit(want.den) || got.compare(positive(want.num)) != 0 {
			t.Fatalf("%v: %v, want %v", list, got, want)
		}
	}
	if got := plainly(nil); len(got) != 0 {
		t.Errorf("of nothing: %v", got)
	}
	far := sum{{at: power(7, 1024).times(power(0, 1024)), coef: big.From(-6)}, {at: power(7, 1), coef: big.From(4)}}
	if got, want := plainly([]sum{far, nil, product(far, less1(3, 2))}), positive(far); got.compare(want) != 0 {
		t.Errorf("%v", got)
	}
}

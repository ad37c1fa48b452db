package square_test

import (
	"math"
	"math/rand/v2"
	"reflect"
	"testing"

	"terrace/api"
	"terrace/big"
	"terrace/poly"
	"terrace/square"
)

func ints(l ...int64) api.Poly {
	var p api.Poly
	for _, n := range l {
		p = append(p, big.From(n))
	}
	return p
}

// monomial makes c x^n + a.
func monomial(c int64, n int, a int64) api.Poly {
	p := make(api.Poly, n+1)
	p[0], p[n] = big.From(a), big.From(c)
	return p
}

func times(t *testing.T, p, q api.Poly) api.Poly {
	t.Helper()
	r, e := poly.Mul(p, q)
	if e != api.OK {
		t.Fatalf("degrees %d and %d are too high", poly.Deg(p), poly.Deg(q))
	}
	return r
}

// product makes c times the factors' powers.
func product(t *testing.T, c api.Int, factors []api.Factor) api.Poly {
	t.Helper()
	p := api.Poly{c}
	for _, f := range factors {
		for range f.N {
			p = times(t, p, f.P)
		}
	}
	return p
}

func text(p api.Poly) string {
	s := ""
	for _, a := range p {
		s += " " + big.Text(a)
	}
	return s
}

func alike(a, b []api.Factor) bool {
	if len(a) != len(b) {
		return false
	}
	for i := range a {
		if a[i].N != b[i].N || text(a[i].P) != text(b[i].P) {
			return false
		}
	}
	return true
}

// holdKnown holds the answers for c times the powers of parts, which are just what Parts has to tell.
func holdKnown(t *testing.T, c api.Int, parts []api.Factor) {
	t.Helper()
	p := product(t, c, parts)
	got, e := square.Parts(p)
	if e != api.OK || !alike(got, parts) {
		t.Fatalf("Parts(%s): %d\n got %v\nwant %v", text(p), e, got, parts)
	}
	want := ints(1)
	for _, f := range parts {
		want = times(t, want, f.P)
	}
	if part, e := square.Part(p); e != api.OK || text(part) != text(want) {
		t.Fatalf("Part(%s): %d\n got %s\nwant %s", text(p), e, text(part), text(want))
	}
}

// none lists what is no polynomial.
func none() []api.Poly {
	out := []api.Poly{{{}}, ints(1, 0), ints(0, 0), ints(-3, 5, 0), monomial(1, api.MaxDeg+1, 0), make(api.Poly, api.MaxDeg+2)}
	for _, c := range []api.Int{{Neg: true}, {Mag: api.Nat{0}}, {Mag: api.Nat{5, 0}}, {Neg: true, Mag: api.Nat{1, 2, 0}}} {
		out = append(out, api.Poly{c}, api.Poly{c, big.From(1)}, api.Poly{big.From(1), c}, api.Poly{big.From(4), c, big.From(-1)})
	}
	return out
}

// P5.1, P5.2: what is no polynomial, and 0, are refused, with nothing beside the error.
func TestRefused(t *testing.T) {
	refused := func(p api.Poly, want api.Errno) {
		t.Helper()
		if q, e := square.Part(p); e != want || q != nil {
			t.Errorf("Part: %v, %d, want %d", q, e, want)
		}
		if l, e := square.Parts(p); e != want || l != nil {
			t.Errorf("Parts: %v, %d, want %d", l, e, want)
		}
	}
	for _, p := range none() {
		refused(p, api.ErrPolyForm)
	}
	refused(nil, api.ErrPolyZero)
	refused(api.Poly{}, api.ErrPolyZero)
}

// P5.1, P5.2: of a constant Part is 1, and Parts are none.
func TestConstants(t *testing.T) {
	for _, c := range []api.Int{big.From(1), big.From(-1), big.From(7), big.From(-12), big.From(math.MinInt64), {Neg: true, Mag: api.Nat{0, 0, 9}}} {
		holdKnown(t, c, nil)
	}
}

// P5.1, P5.2: the example of the chapter.
func TestExample(t *testing.T) {
	parts := []api.Factor{{P: ints(2, 1), N: 1}, {P: ints(0, -1, 1), N: 3}}
	holdKnown(t, big.From(-4), parts)
	part, e := square.Part(product(t, big.From(-4), parts))
	if e != api.OK || text(part) != " 0 -2 1 1" {
		t.Errorf("%s, %d", text(part), e)
	}
}

// P5.1, P5.2: parts that are known: whatever the content and the sign, with gaps between the powers, with leads above
// 1, parts that have several factors, and parts without real roots.
func TestKnown(t *testing.T) {
	lists := [][]api.Factor{
		{{P: ints(0, 1), N: 1}},
		{{P: ints(0, 1), N: 5}},
		{{P: ints(-3, 2), N: 1}},
		{{P: ints(-3, 2), N: 2}},
		{{P: ints(-2, 0, 0, 0, 3), N: 1}},
		{{P: ints(1, 0, 1), N: 4}},
		{{P: ints(-1, 0, 1), N: 1}, {P: ints(1, 0, 1), N: 2}},
		{{P: ints(5, 3), N: 2}, {P: ints(5, -3, 7), N: 3}, {P: ints(-2, 0, 1), N: 7}},
		{{P: ints(1, 1), N: 1}, {P: ints(2, 1), N: 2}, {P: ints(3, 1), N: 3}, {P: ints(4, 1), N: 4}, {P: ints(5, 1), N: 5}},
		{{P: ints(-1, 0, 0, 0, 0, 1), N: 3}, {P: ints(1, 1), N: 40}},
		{{P: api.Poly{{Neg: true, Mag: api.Nat{1, 1}}, {}, {Mag: api.Nat{3, 0, 1}}}, N: 2}, {P: api.Poly{{Mag: api.Nat{7, 7, 7}}, {Mag: api.Nat{0, 2}}}, N: 3}},
	}
	for _, parts := range lists {
		for _, c := range []api.Int{big.From(1), big.From(-1), big.From(6), big.From(-4), {Neg: true, Mag: api.Nat{1, 0, 5}}} {
			holdKnown(t, c, parts)
		}
	}
}

// P5.1, P5.2: numbers of a prime's multiple as power or degree: a derivative over the whole numbers is 0 for constants alone.
func TestPowersOfPrimes(t *testing.T) {
	for _, n := range []int{2, 3, 5, 7, 11, 16, 27, 101} {
		holdKnown(t, big.From(1), []api.Factor{{P: ints(1, 1), N: n}})
		holdKnown(t, big.From(int64(n)), []api.Factor{{P: monomial(1, n, -1), N: 1}})
		holdKnown(t, big.From(-1), []api.Factor{{P: monomial(1, n, 2), N: 3}})
	}
}

// P5.1, P5.2: degrees up to MaxDeg.
func TestHighest(t *testing.T) {
	holdKnown(t, big.From(-2), []api.Factor{{P: ints(0, 1), N: api.MaxDeg}})
	holdKnown(t, big.From(3), []api.Factor{{P: ints(-5, 1), N: api.MaxDeg}})
	holdKnown(t, big.From(1), []api.Factor{{P: monomial(2, api.MaxDeg, -1), N: 1}})
	holdKnown(t, big.From(1), []api.Factor{{P: monomial(3, api.MaxDeg/2, 1), N: 2}})
	holdKnown(t, big.From(1), []api.Factor{{P: monomial(3, api.MaxDeg/2-1, 1), N: 1}, {P: ints(0, 1), N: api.MaxDeg/2 + 1}})
	var steps []api.Factor
	for i := range 44 {
		steps = append(steps, api.Factor{P: ints(int64(i-20), 1), N: i + 1})
	}
	holdKnown(t, big.From(-1), steps)
}

// number tells all sorts: short and long ones, and 0.
func number(r *rand.Rand) api.Int {
	switch r.IntN(6) {
	case 0:
		return api.Int{}
	case 1:
		return api.Int{Neg: r.IntN(2) == 0, Mag: api.Nat{r.Uint64(), r.Uint64() | 1}}
	}
	return big.From(r.Int64N(19) - 9)
}

// some tells a polynomial that is not 0, of a degree below n.
func some(r *rand.Rand, n int) api.Poly {
	p := make(api.Poly, 1+r.IntN(n))
	for i := range p {
		p[i] = number(r)
	}
	if last := len(p) - 1; len(p[last].Mag) == 0 {
		p[last] = big.From(-2)
	}
	return p
}

func common(p, q api.Poly) api.Poly {
	g, _ := poly.Gcd(p, q)
	return g
}

func withoutSquares(p api.Poly) bool {
	d, _ := poly.Der(p)
	return poly.Deg(p) == 0 || poly.Deg(common(p, d)) == 0
}

// holdLaws holds what P5.2 says of the parts of p, and what P5.3 says of both answers.
func holdLaws(t *testing.T, p api.Poly) {
	t.Helper()
	parts, e := square.Parts(p)
	part, e2 := square.Part(p)
	if e != api.OK || e2 != api.OK {
		t.Fatalf("%s: %d, %d", text(p), e, e2)
	}
	all := ints(1)
	for i, f := range parts {
		prim, _ := poly.Prim(f.P)
		if poly.Deg(f.P) < 1 || text(prim) != text(f.P) || !withoutSquares(f.P) || poly.Deg(common(all, f.P)) != 0 {
			t.Fatalf("%s: part %d: %s", text(p), i, text(f.P))
		}
		if f.N < 1 || i > 0 && parts[i-1].N >= f.N {
			t.Fatalf("%s: part %d stands %d times", text(p), i, f.N)
		}
		all = times(t, all, f.P)
	}
	if text(all) != text(part) || !withoutSquares(part) {
		t.Fatalf("%s: the parts make %s, Part is %s", text(p), text(all), text(part))
	}
	c, _ := poly.Content(p)
	c.Neg = poly.Lead(p).Neg
	if q := product(t, c, parts); text(q) != text(p) {
		t.Fatalf("%s: the powers of the parts make %s", text(p), text(q))
	}
}

// P5.2, P5.3: whatever p is.
func TestLaws(t *testing.T) {
	r := rand.New(rand.NewPCG(5, 14))
	for range 1500 {
		p := some(r, 5)
		for range r.IntN(4) {
			f := some(r, 4)
			for range 1 + r.IntN(4) {
				p = times(t, p, f)
			}
		}
		holdLaws(t, p)
	}
}

// P5.3: Part has p's roots, each once.
func TestRoots(t *testing.T) {
	r := rand.New(rand.NewPCG(5, 3))
	for range 200 {
		p := times(t, ints(-3, 0, 5), ints(2, 1, 1)) // no root of these is rational
		powers := map[int64]int{}
		for range 1 + r.IntN(6) {
			root := r.Int64N(9) - 4
			powers[root]++
			p = times(t, p, ints(-root, 2))
		}
		part, e := square.Part(p)
		if e != api.OK {
			t.Fatal(e)
		}
		for n := int64(-5); n < 6; n++ {
			rest, e := poly.Exact(part, primitive(ints(-n, 2)))
			if has := powers[n] > 0; has != (e == api.OK) {
				t.Fatalf("%s: %d/2 is a root: %v; of Part %s: %v", text(p), n, has, text(part), e == api.OK)
			}
			if _, again := poly.Exact(rest, primitive(ints(-n, 2))); e == api.OK && again == api.OK {
				t.Fatalf("%s: %d/2 is twice a root of %s", text(p), n, text(part))
			}
		}
	}
}

func primitive(p api.Poly) api.Poly {
	q, _ := poly.Prim(p)
	return q
}

// R1: the same call tells the same.
func TestSame(t *testing.T) {
	p := product(t, big.From(-6), []api.Factor{{P: ints(1, 2), N: 2}, {P: ints(1, 1, 1), N: 3}})
	a, _ := square.Parts(p)
	b, _ := square.Parts(p)
	if !reflect.DeepEqual(a, b) {
		t.Errorf("%v, then %v", a, b)
	}
}

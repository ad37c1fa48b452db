package berl_test

import (
	"math/rand/v2"
	"slices"
	"testing"

	"terrace/api"
	"terrace/berl"
	"terrace/modp"
)

const large = 1021 // the greatest prime below api.MaxSmall

var primes = [...]uint64{2, 3, 5, 7, 31, 101, 509, large}

type f = api.FPoly

// must fails the test, unless e is OK.
func must(t *testing.T, e api.Errno) {
	t.Helper()
	if e != api.OK {
		t.Fatalf("error %d", e)
	}
}

// some is a random monic polynomial.
func some(r *rand.Rand, degree int, p uint64) f {
	g := power(degree)
	for i := range degree {
		g[i] = r.Uint64N(p)
	}
	return g
}

func power(degree int) f {
	return append(make(f, degree), 1)
}

// count is the i-th monic polynomial of a degree.
func count(i uint64, degree int, p uint64) f {
	g := power(degree)
	for k := range degree {
		g[k] = i % p
		i /= p
	}
	return g
}

// times is the product, f{} if its degree is too high.
func times(l []f, p uint64) f {
	product := f{1}
	for _, g := range l {
		product, _ = modp.Mul(product, g, p)
	}
	return product
}

func isRising(l []f) bool {
	for i := 1; i < len(l); i++ {
		a, b := slices.Clone(l[i-1]), slices.Clone(l[i])
		slices.Reverse(a)
		slices.Reverse(b)
		if len(a) > len(b) || len(a) == len(b) && slices.Compare(a, b) >= 0 {
			return false
		}
	}
	return true
}

func equal(a, b []f) bool {
	return slices.EqualFunc(a, b, slices.Equal)
}

// P12.1: the document's examples, and such as the order hangs on.
func TestExamples(t *testing.T) {
	for i, c := range []struct {
		g    f
		p    uint64
		want []f
	}{
		{f{0, 1, 0, 0, 1}, 2, []f{{0, 1}, {1, 1}, {1, 1, 1}}},
		{f{1, 0, 0, 0, 1}, 3, []f{{2, 1, 1}, {2, 2, 1}}},
		{f{0, 1}, 2, []f{{0, 1}}},
		{f{1, 1}, 2, []f{{1, 1}}},
		{f{large - 1, 1}, large, []f{{large - 1, 1}}},
		{f{0, 1, 1}, 2, []f{{0, 1}, {1, 1}}},
		{f{1, 0, 1}, 3, []f{{1, 0, 1}}},
		// The one that begins with less ends with more: (x^2 + 1) (x^2 + x + 2).
		{f{2, 1, 0, 1, 1}, 3, []f{{1, 0, 1}, {2, 1, 1}}},
		// (x^2 + 3 x + 5) (x^2 + 4 x + 1), by the coefficient of x.
		{f{5, 2, 4, 0, 1}, 7, []f{{5, 3, 1}, {1, 4, 1}}},
		// (x + 2) (x^2 + 1): by degree first.
		{f{2, 1, 2, 1}, 3, []f{{2, 1}, {1, 0, 1}}},
	} {
		if l, e := berl.Factor(c.g, c.p); e != api.OK || !equal(l, c.want) {
			t.Errorf("%d: %d, %d", i, l, e)
		}
	}
}

// P12.1, P12.2: what is no polynomial modulo a prime below api.MaxSmall, ahead of all else; zero values beside it.
func TestForms(t *testing.T) {
	for i, c := range []struct {
		g f
		p uint64
	}{
		{f{1, 1}, 1031}, {f{1, 1}, 1024}, {f{1, 1}, 1023}, {f{1, 1}, 1<<31 - 1}, {f{1, 1}, 1 << 40}, {f{1, 1}, 0}, {f{0}, 1}, {f{1, 1}, 4},
		{f{1, 1}, 561}, {f{0, 1, 0}, 5}, {f{5, 1}, 5}, {f{1, 5}, 5}, {f{0}, 5}, {power(api.MaxDeg + 1), 5},
		{nil, 1031}, {f{2}, 1031}, {f{1, 2, 1}, 1031}, {f{1, 2}, 6}, {nil, 9}, {f{4, 4, 7}, 7},
	} {
		l, e := berl.Factor(c.g, c.p)
		m, d := berl.Degrees(c.g, c.p)
		is, g := berl.Irreducible(c.g, c.p)
		if l != nil || m != nil || is || e != api.ErrModForm || d != api.ErrModForm || g != api.ErrModForm {
			t.Errorf("%d: %d, %d; %d, %d; %v, %d", i, l, e, m, d, is, g)
		}
	}
}

// P12.1: what is not monic, too short, or has squares.
func TestNotMonic(t *testing.T) {
	for i, c := range []struct {
		g f
		p uint64
	}{
		{nil, 2}, {f{}, large}, {f{1}, 2}, {f{1}, 5}, {f{4}, 5}, {f{1, 2}, 5}, {f{1, 0, 4}, 5}, {f{0, 0, 1}, 2}, {f{1, 0, 1}, 2}, {f{1, 2, 1}, 5},
		{f{1, 0, 0, 1}, 3}, {f{0, 0, 0, 1, 1}, 7}, {f{1, 0, 2, 0, 1}, large}, {power(api.MaxDeg), 2}, {power(large), large},
		{append(f{large - 1}, power(large-1)...), large}, {f{0, 0, 0, 2}, 3},
	} {
		l, e := berl.Factor(c.g, c.p)
		m, d := berl.Degrees(c.g, c.p)
		if l != nil || m != nil || e != api.ErrModMonic || d != api.ErrModMonic {
			t.Errorf("%d: %d, %d; %d, %d", i, l, e, m, d)
		}
	}
}

// least is g's monic divisor of the lowest degree, sought one by one.
func least(g f, p uint64) f {
	for degree := 1; 2*degree < len(g); degree++ {
		for i, all := uint64(0), power64(p, degree); i < all; i++ {
			d := count(i, degree, p)
			if _, rest, _ := modp.DivMod(g, d, p); len(rest) == 0 {
				return d
			}
		}
	}
	return g
}

func power64(a uint64, n int) uint64 {
	r := uint64(1)
	for range n {
		r *= a
	}
	return r
}

// byTrial are g's monic irreducible factors, as they are met.
func byTrial(g f, p uint64) []f {
	var l []f
	for len(g) > 1 {
		d := least(g, p)
		l = append(l, d)
		g, _, _ = modp.DivMod(g, d, p)
	}
	return l
}

// P12.1 to P12.3: all monic polynomials of small degrees against divisors sought one by one.
func TestAllSmall(t *testing.T) {
	for _, c := range []struct {
		p      uint64
		degree int
	}{{2, 9}, {3, 6}, {5, 4}, {7, 3}, {11, 2}, {31, 2}} {
		for degree := range c.degree + 1 {
			for i, all := uint64(0), power64(c.p, degree); i < all; i++ {
				heldByTrial(t, count(i, degree, c.p), c.p)
			}
		}
	}
}

func heldByTrial(t *testing.T, g f, p uint64) {
	want := byTrial(g, p)
	if is, e := berl.Irreducible(g, p); e != api.OK || is != (len(want) == 1) {
		t.Fatalf("%d modulo %d: %v, %d", g, p, is, e)
	}
	l, e := berl.Factor(g, p)
	m, d := berl.Degrees(g, p)
	if len(want) == 0 || hasSquares(want) {
		if e != api.ErrModMonic || d != api.ErrModMonic {
			t.Fatalf("%d modulo %d: %d, %d", g, p, e, d)
		}
		return
	}
	if e != api.OK || d != api.OK || !isRising(l) || !sameInAnyOrder(l, want) || !equal(m, byDegrees(l, len(g)-1, p)) {
		t.Fatalf("%d modulo %d: %d, %d; %d, %d", g, p, l, e, m, d)
	}
}

func hasSquares(l []f) bool {
	for i, g := range l {
		if slices.ContainsFunc(l[i+1:], func(h f) bool { return slices.Equal(g, h) }) {
			return true
		}
	}
	return false
}

func sameInAnyOrder(l, want []f) bool {
	for _, g := range want {
		if !slices.ContainsFunc(l, func(h f) bool { return slices.Equal(g, h) }) {
			return false
		}
	}
	return len(l) == len(want)
}

// byDegrees are the products of those of l of degree 1, 2 and so on.
func byDegrees(l []f, degree int, p uint64) []f {
	products := make([]f, degree)
	for i := range products {
		var those []f
		for _, g := range l {
			if len(g) == i+2 {
				those = append(those, g)
			}
		}
		products[i] = times(those, p)
	}
	return products
}

// P12.2
func TestIrreducible(t *testing.T) {
	for i, c := range []struct {
		g    f
		p    uint64
		want bool
	}{
		{nil, 2, false}, {f{}, large, false}, {f{1}, 2, false}, {f{4}, 5, false}, {f{0, 3}, 5, true}, {f{3, 2}, 5, true}, {f{2, 0, 2}, 3, true},
		{f{1, 0, 2}, 3, false}, {f{0, 0, 3}, 5, false}, {f{1, 2, 1}, 5, false}, {f{2, 4, 2}, 5, false}, {f{1, 0, 0, 0, 1}, 2, false},
		{f{1, 0, 1, 0, 1}, 2, false}, {f{1, 1, 0, 0, 1}, 2, true}, {f{1, 1, 1, 1, 1}, 2, true}, {f{2, 0, 0, 1}, 3, false}, {f{1, 1, 0, 1, 1, 0, 0, 0, 1}, 2, true},
		{power(api.MaxDeg), 2, false}, {power(api.MaxDeg), large, false},
	} {
		if is, e := berl.Irreducible(c.g, c.p); e != api.OK || is != c.want {
			t.Errorf("%d: %v, %d", i, is, e)
		}
	}
}

// P12.2: x^p - x - a is irreducible modulo p (Artin, Schreier), times whatever number.
func TestIrreducibleHigh(t *testing.T) {
	random := rand.New(rand.NewPCG(12, 1))
	for _, p := range primes {
		for range 3 {
			g := power(int(p))
			g[1] = p - 1
			g[0] = p - 1 - random.Uint64N(p-1)
			c := 1 + random.Uint64N(p-1)
			h, e := modp.Mul(g, f{c}, p)
			must(t, e)
			if is, e := berl.Irreducible(h, p); e != api.OK || !is {
				t.Errorf("%d: %v, %d", p, is, e)
			}
			if l, e := berl.Factor(g, p); e != api.OK || !equal(l, []f{g}) {
				t.Errorf("%d: %d, %d", p, len(l), e)
			}
		}
	}
}

// P12.1, P12.3: x^(p^n) - x is the product of all monic irreducible polynomials whose degree divides n.
func TestAllOfDegrees(t *testing.T) {
	for _, c := range []struct {
		p     uint64
		n     int
		count []int // of degree 1, 2 and so on (Gauss)
	}{
		{2, 10, []int{2, 1, 0, 0, 6, 0, 0, 0, 0, 99}}, {2, 9, []int{2, 0, 2, 0, 0, 0, 0, 0, 56}}, {3, 6, []int{3, 3, 8, 0, 0, 116}}, {5, 4, []int{5, 10, 0, 150}},
		{7, 3, []int{7, 0, 112}}, {31, 2, []int{31, 465}}, {101, 1, []int{101}}, {large, 1, []int{large}},
	} {
		g := power(int(power64(c.p, c.n)))
		g[1] = c.p - 1
		l := told(t, g, c.p)
		met := make([]int, c.n)
		for _, h := range l {
			met[len(h)-2]++
		}
		if !slices.Equal(met, c.count) {
			t.Errorf("%d, %d: %d", c.p, c.n, met)
		}
	}
}

package berl_test

import (
	"math/rand/v2"
	"slices"
	"testing"

	"terrace/api"
	"terrace/berl"
	"terrace/modp"
)

// passes tells whether g is irreducible by Rabin's test: x^(p^n) is x modulo it, n its degree, and for no lower
// power, by a divisor of n, they have something in common.
func passes(g f, p uint64) bool {
	n := len(g) - 1
	x := f{0, 1}
	_, first, _ := modp.DivMod(x, g, p)
	power := first
	for i := 1; i <= n; i++ {
		power, _ = modp.Pow(power, p, g, p)
		less, _ := modp.Sub(power, first, p)
		if i == n {
			return len(less) == 0
		}
		if common, _ := modp.Gcd(less, g, p); n%i == 0 && len(common) != 1 {
			return false
		}
	}
	return false
}

// told are g's factors, held against all of P12.3.
func told(t *testing.T, g f, p uint64) []f {
	t.Helper()
	l, e := berl.Factor(g, p)
	must(t, e)
	if !isRising(l) || !slices.Equal(times(l, p), g) {
		t.Fatalf("degree %d modulo %d: not its factors", len(g)-1, p)
	}
	for _, h := range l {
		if is, e := berl.Irreducible(h, p); h[len(h)-1] != 1 || !is || e != api.OK {
			t.Fatalf("degree %d modulo %d: %v, %d", len(g)-1, p, is, e)
		}
	}
	m, e := berl.Degrees(g, p)
	must(t, e)
	if !equal(m, byDegrees(l, len(g)-1, p)) {
		t.Fatalf("degree %d modulo %d: not its degrees", len(g)-1, p)
	}
	if is, e := berl.Irreducible(g, p); is != (len(l) == 1) || e != api.OK {
		t.Fatalf("degree %d modulo %d: %v, %d", len(g)-1, p, is, e)
	}
	return l
}

func isSquarefree(g f, p uint64) bool {
	derivative, _ := modp.Der(g, p)
	common, _ := modp.Gcd(g, derivative, p)
	return len(common) == 1
}

// P12.1, P12.3: random ones; each factor passes Rabin's test, too.
func TestRandom(t *testing.T) {
	random := rand.New(rand.NewPCG(12, 2))
	for _, p := range primes {
		for range 60 {
			g := some(random, 1+random.IntN(24), p)
			if !isSquarefree(g, p) {
				continue
			}
			for _, h := range told(t, g, p) {
				if !passes(h, p) {
					t.Fatalf("%d modulo %d: %d", g, p, h)
				}
			}
		}
	}
}

// P12.1: products of known irreducible ones, as many as go into MaxDeg.
func TestProducts(t *testing.T) {
	random := rand.New(rand.NewPCG(12, 3))
	for _, c := range []struct {
		p      uint64
		degree int
	}{{2, 40}, {3, 30}, {31, 25}, {101, 2}, {large, 2}} {
		var l []f
		for (len(l)+1)*c.degree <= api.MaxDeg {
			g := some(random, c.degree, c.p)
			if passes(g, c.p) && !slices.ContainsFunc(l, func(h f) bool { return slices.Equal(g, h) }) {
				l = append(l, g)
			}
		}
		if told := told(t, times(l, c.p), c.p); !sameInAnyOrder(told, l) {
			t.Errorf("%d, %d: %d of %d", c.p, c.degree, len(told), len(l))
		}
	}
}

// P12.1: the edge, a random polynomial of degree MaxDeg.
func TestMaxDeg(t *testing.T) {
	random := rand.New(rand.NewPCG(12, 4))
	for _, p := range []uint64{2, 3, 101, large} {
		g := some(random, api.MaxDeg, p)
		for !isSquarefree(g, p) {
			g = some(random, api.MaxDeg, p)
		}
		told(t, g, p)
	}
}

// P12.1, P12.3: moved by a number, factors are moved.
func TestMoved(t *testing.T) {
	random := rand.New(rand.NewPCG(12, 5))
	for _, p := range primes {
		for range 20 {
			g := some(random, 1+random.IntN(12), p)
			if !isSquarefree(g, p) {
				continue
			}
			c := random.Uint64N(p)
			var want []f
			for _, h := range told(t, g, p) {
				want = append(want, moved(h, c, p))
			}
			if l := told(t, moved(g, c, p), p); !sameInAnyOrder(l, want) {
				t.Fatalf("%d modulo %d, %d", g, p, c)
			}
		}
	}
}

// moved is g at x + c.
func moved(g f, c, p uint64) f {
	var r f
	for _, a := range slices.Backward(g) {
		r, _ = modp.Mul(r, f{c, 1}, p)
		if a != 0 {
			r, _ = modp.Add(r, f{a}, p)
		}
	}
	return r
}

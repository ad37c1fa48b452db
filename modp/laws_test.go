package modp_test

import (
	"math"
	"math/rand/v2"
	"slices"
	"testing"

	"terrace/api"
	"terrace/big"
	"terrace/modp"
	"terrace/poly"
)

// ring reckons modulo p, and fails the test where a call refuses.
type ring struct {
	*testing.T
	p uint64
}

func (r ring) add(a, b f) f {
	g, e := modp.Add(a, b, r.p)
	return held(r.T, g, e, r.p)
}

func (r ring) sub(a, b f) f {
	g, e := modp.Sub(a, b, r.p)
	return held(r.T, g, e, r.p)
}

func (r ring) mul(a, b f) f {
	g, e := modp.Mul(a, b, r.p)
	return held(r.T, g, e, r.p)
}

func (r ring) der(a f) f {
	g, e := modp.Der(a, r.p)
	return held(r.T, g, e, r.p)
}

func (r ring) gcd(a, b f) f {
	g, e := modp.Gcd(a, b, r.p)
	return held(r.T, g, e, r.p)
}

func (r ring) monic(a f) f {
	g, e := modp.Monic(a, r.p)
	return held(r.T, g, e, r.p)
}

func (r ring) pow(a f, n uint64, g f) f {
	b, e := modp.Pow(a, n, g, r.p)
	return held(r.T, b, e, r.p)
}

func (r ring) quo(a, b f) f {
	g, _, e := modp.DivMod(a, b, r.p)
	return held(r.T, g, e, r.p)
}

func (r ring) rest(a, b f) f {
	_, g, e := modp.DivMod(a, b, r.p)
	return held(r.T, g, e, r.p)
}

func (r ring) at(a f, x uint64) uint64 {
	v, e := modp.Eval(a, x, r.p)
	must(r.T, e)
	return v
}

func (r ring) of(a api.Poly) f {
	g, e := modp.Of(a, r.p)
	return held(r.T, g, e, r.p)
}

func (r ring) same(law string, a, b f) {
	r.Helper()
	if !slices.Equal(a, b) {
		r.Errorf("%s modulo %d: %d, %d", law, r.p, a, b)
	}
}

// P11.2, P11.4: a ring, of which values and derivatives keep the laws.
func TestRing(t *testing.T) {
	random := rand.New(rand.NewPCG(11, 5))
	for _, p := range primes {
		r := ring{t, p}
		for range 100 {
			a, b, c := some(random, random.IntN(12), p), some(random, random.IntN(12), p), some(random, random.IntN(12), p)
			r.same("a + b", r.add(a, b), r.add(b, a))
			r.same("a + b + c", r.add(r.add(a, b), c), r.add(a, r.add(b, c)))
			r.same("a - b + b", r.add(r.sub(a, b), b), a)
			r.same("a - a", r.sub(a, a), nil)
			r.same("a b", r.mul(a, b), r.mul(b, a))
			r.same("a b c", r.mul(r.mul(a, b), c), r.mul(a, r.mul(b, c)))
			r.same("a (b + c)", r.mul(a, r.add(b, c)), r.add(r.mul(a, b), r.mul(a, c)))
			r.same("1 a", r.mul(f{1}, a), a)
			r.same("(a b)'", r.der(r.mul(a, b)), r.add(r.mul(r.der(a), b), r.mul(a, r.der(b))))
			r.same("(a + b)'", r.der(r.add(a, b)), r.add(r.der(a), r.der(b)))
			x := random.Uint64N(p)
			if r.at(r.mul(a, b), x) != r.at(a, x)*r.at(b, x)%p || r.at(r.add(a, b), x) != (r.at(a, x)+r.at(b, x))%p {
				t.Errorf("%d, %d modulo %d at %d", a, b, p, x)
			}
			if len(a) > 0 {
				r.same("monic", r.mul(r.monic(a), a[len(a)-1:]), a)
			}
		}
	}
}

// P11.3, P11.4: a Euclidean ring.
func TestEuclidean(t *testing.T) {
	random := rand.New(rand.NewPCG(11, 6))
	for _, p := range primes {
		r := ring{t, p}
		for range 100 {
			a, b, c := some(random, random.IntN(12), p), some(random, random.IntN(12), p), some(random, 1+random.IntN(12), p)
			d := r.gcd(a, b)
			r.same("gcd(b, a)", r.gcd(b, a), d)
			r.same("gcd(a + b, b)", r.gcd(r.add(a, b), b), d)
			r.same("gcd(a c, b c)", r.gcd(r.mul(a, c), r.mul(b, c)), r.mul(d, r.monic(c)))
			r.same("a c / c", r.quo(r.mul(a, c), c), a)
			if len(d) > 0 {
				r.same("a modulo gcd", r.rest(a, d), nil)
				r.same("b modulo gcd", r.rest(b, d), nil)
				r.same("cofactors", r.gcd(r.quo(a, d), r.quo(b, d)), f{1})
			}
			n, m := random.Uint64()>>1, random.Uint64()>>1
			r.same("a to the n + m", r.pow(a, n+m, c), r.rest(r.mul(r.pow(a, n, c), r.pow(a, m, c)), c))
			r.same("(a b) to the n", r.pow(r.mul(a, b), n, c), r.rest(r.mul(r.pow(a, n, c), r.pow(b, n, c)), c))
		}
	}
}

// P11.4
func TestOfKeeps(t *testing.T) {
	random := rand.New(rand.NewPCG(11, 7))
	whole := func() api.Poly {
		a := make(api.Poly, random.IntN(8))
		for i := range a {
			n, e := big.Mul(big.From(random.Int64()>>random.IntN(60)), big.From(random.Int64()|1))
			must(t, e)
			a[i] = n
		}
		for len(a) > 0 && len(a[len(a)-1].Mag) == 0 {
			a = a[:len(a)-1]
		}
		return a
	}
	for _, p := range primes {
		r := ring{t, p}
		for range 50 {
			a, b := whole(), whole()
			sum, e := poly.Add(a, b)
			must(t, e)
			less, e := poly.Sub(a, b)
			must(t, e)
			product, e := poly.Mul(a, b)
			must(t, e)
			r.same("of a + b", r.of(sum), r.add(r.of(a), r.of(b)))
			r.same("of a - b", r.of(less), r.sub(r.of(a), r.of(b)))
			r.same("of a b", r.of(product), r.mul(r.of(a), r.of(b)))
		}
	}
}

// P11.4: f to the p is f with each exponent p times as high, modulo anything.
func TestFrobenius(t *testing.T) {
	random := rand.New(rand.NewPCG(11, 8))
	for _, p := range primes {
		r := ring{t, p}
		for range 20 {
			a, g := some(random, random.IntN(10), p), some(random, 1+random.IntN(10), p)
			var want f
			for i, c := range a {
				if c != 0 {
					want = r.add(want, r.mul(r.rest(f{c}, g), r.pow(power(i), p, g)))
				}
			}
			r.same("a to the p", r.pow(a, p, g), want)
			if int(p)*(len(a)-1) > api.MaxDeg {
				continue
			}
			spread := make(f, max(0, int(p)*(len(a)-1)+1))
			for i, c := range a {
				spread[int(p)*i] = c
			}
			r.same("a of x to the p", r.pow(a, p, g), r.rest(spread, g))
		}
	}
}

// The highest degrees, the longest power.
func TestHigh(t *testing.T) {
	random := rand.New(rand.NewPCG(11, 9))
	for _, p := range []uint64{2, large} {
		r := ring{t, p}
		a, b, g := some(random, api.MaxDeg+1, p), some(random, api.MaxDeg+1, p), some(random, api.MaxDeg+1, p)
		r.same("a to the 2^64 - 1", r.pow(a, math.MaxUint64, g), r.pow(r.pow(a, 1<<32+1, g), 1<<32-1, g))
		d, c := some(random, 513, p), some(random, 512, p)
		r.same("gcd", r.gcd(r.mul(c, d), r.mul(r.add(c, f{1}), d)), r.monic(d))
		r.gcd(a, b)
		most := make(f, 513)
		for i := range most {
			most[i] = p - 1
		}
		square := r.mul(most, most)
		for i, v := range square {
			if v != uint64(min(i, 2*512-i)+1)%p {
				t.Fatalf("coefficient %d: %d", i, v)
			}
		}
		r.same("quotient", r.quo(square, most), most)
	}
}

package modp_test

import (
	"math"
	"math/rand/v2"
	"slices"
	"testing"

	"terrace/api"
	"terrace/big"
	"terrace/modp"
)

const (
	large   = 1<<31 - 1 // a prime, the greatest one below api.MaxPrime
	inRows  = 1 << 14   // below it every number is asked whether it is a prime
	atTop   = 1 << 11   // so many numbers below api.MaxPrime, too
	ofTrial = 1 << 16   // a number below its square has a divisor below it, if any
)

var primes = [...]uint64{2, 3, 5, 7, 11, 101, 1021, 65537, large}

type f = api.FPoly

// must fails the test, unless e is OK.
func must(t *testing.T, e api.Errno) {
	t.Helper()
	if e != api.OK {
		t.Fatalf("error %d", e)
	}
}

// held fails the test, unless g is told, and is a polynomial modulo p.
func held(t *testing.T, g f, e api.Errno, p uint64) f {
	t.Helper()
	must(t, e)
	must(t, modp.Check(g, p))
	return g
}

func some(r *rand.Rand, length int, p uint64) f {
	g := make(f, length)
	for i := range g {
		g[i] = r.Uint64N(p)
	}
	if length > 0 {
		g[length-1] = 1 + r.Uint64N(p-1)
	}
	return g
}

func power(degree int) f {
	return append(make(f, degree), 1)
}

func ints(l ...int64) api.Poly {
	var a api.Poly
	for _, n := range l {
		a = append(a, big.From(n))
	}
	return a
}

func primeByTrial(n uint64) bool {
	for d := uint64(2); d < ofTrial && d*d <= n; d++ {
		if n%d == 0 {
			return false
		}
	}
	return n >= 2
}

// P11.1
func TestPrimes(t *testing.T) {
	ask := func(n uint64) {
		want := api.ErrModForm
		if n < api.MaxPrime && primeByTrial(n) {
			want = api.OK
		}
		if e := modp.Check(nil, n); e != want {
			t.Errorf("%d: %d", n, e)
		}
		if _, e := modp.Of(nil, n); e != want {
			t.Errorf("Of modulo %d: %d", n, e)
		}
	}
	for n := range uint64(inRows) {
		ask(n)
	}
	for n := uint64(api.MaxPrime - atTop); n < api.MaxPrime+atTop; n++ {
		ask(n)
	}
	// Those that look like primes to the bases 2, to 2 and 3, to 2, 3 and 5 (Miller, Rabin), squares, Carmichael's.
	for _, n := range []uint64{
		2047, 3277, 4033, 1373653, 1530787, 1987021, 2284453, 25326001, 161304001, 960946321, 1157839381,
		46337 * 46337, 46327 * 46337, 561, 1105, 1729, 1193221 * 1741, 3215031751, 2147483659, 1 << 32, math.MaxUint64, 18446744073709551557,
	} {
		if e := modp.Check(nil, n); e != api.ErrModForm {
			t.Errorf("%d: %d", n, e)
		}
	}
}

// P11.1
func TestForms(t *testing.T) {
	for _, c := range []struct {
		g    f
		p    uint64
		want api.Errno
	}{
		{nil, 2, api.OK}, {f{}, 2, api.OK}, {f{0}, 2, api.ErrModForm}, {f{0, 1}, 2, api.OK}, {f{2}, 2, api.ErrModForm},
		{f{1, 2, 1}, 2, api.ErrModForm}, {f{6, 6}, 7, api.OK}, {f{7, 6}, 7, api.ErrModForm}, {f{6, 7}, 7, api.ErrModForm},
		{f{1, 0, 0}, 7, api.ErrModForm}, {f{large - 1}, large, api.OK}, {f{large}, large, api.ErrModForm},
		{f{math.MaxUint64, 1}, large, api.ErrModForm}, {power(api.MaxDeg), 3, api.OK}, {power(api.MaxDeg + 1), 3, api.ErrModForm},
		{f{1, 1}, 4, api.ErrModForm}, {f{}, 0, api.ErrModForm}, {f{0}, 1, api.ErrModForm},
	} {
		if e := modp.Check(c.g, c.p); e != c.want {
			t.Errorf("%d modulo %d: %d", len(c.g), c.p, e)
		}
	}
}

// wrong are a polynomial and a prime, or what is none.
func wrong() []struct {
	g f
	p uint64
} {
	return []struct {
		g f
		p uint64
	}{
		{f{1}, 0}, {f{}, 1}, {f{1}, 9}, {f{1}, api.MaxPrime}, {f{1}, 2147483659}, {f{1, 0}, 5}, {f{5}, 5}, {f{9, 1}, 5},
		{power(api.MaxDeg + 1), 5},
	}
}

// P11.1 to P11.3: every call tells Check first, and zero values beside an error (R4).
func TestRefused(t *testing.T) {
	for i, c := range wrong() {
		no := func(call string, g f, e api.Errno) {
			t.Helper()
			if g != nil || e != api.ErrModForm {
				t.Errorf("%d: %s: %d, %d", i, call, g, e)
			}
		}
		two := func(call string, tells func(a, b f, p uint64) (f, api.Errno)) {
			for _, other := range []f{nil, {1}, {0, 1}, c.g} {
				g, e := tells(c.g, other, c.p)
				no(call, g, e)
				g, e = tells(other, c.g, c.p)
				no(call, g, e)
			}
		}
		two("Add", modp.Add)
		two("Sub", modp.Sub)
		two("Mul", modp.Mul)
		two("Gcd", modp.Gcd)
		two("DivMod", func(a, b f, p uint64) (f, api.Errno) {
			quo, rest, e := modp.DivMod(a, b, p)
			no("DivMod's rest", rest, e)
			return quo, e
		})
		two("Pow", func(a, b f, p uint64) (f, api.Errno) { return modp.Pow(a, 3, b, p) })
		g, e := modp.Der(c.g, c.p)
		no("Der", g, e)
		g, e = modp.Monic(c.g, c.p)
		no("Monic", g, e)
		if x, e := modp.Eval(c.g, 0, c.p); x != 0 || e != api.ErrModForm {
			t.Errorf("%d: Eval: %d, %d", i, x, e)
		}
	}
}

// P11.1
func TestOf(t *testing.T) {
	for i, c := range []struct {
		a    api.Poly
		p    uint64
		want f
	}{
		{nil, 2, nil}, {ints(2), 2, nil}, {ints(-1), 2, f{1}}, {ints(-1, -5, -6, 5), 5, f{4, 0, 4}}, {ints(3, 7, 14), 7, f{3}},
		{ints(math.MinInt64, math.MaxInt64), large, f{large - 2, 1}}, {ints(-large, 0, -1), large, f{0, 0, large - 1}},
	} {
		if g, e := modp.Of(c.a, c.p); e != api.OK || !slices.Equal(g, c.want) {
			t.Errorf("%d: %d, %d", i, g, e)
		}
	}
	long := api.Poly{{Mag: api.Nat{1, 0, 1}}, {Neg: true, Mag: api.Nat{5, 1 << 63, math.MaxUint64, 7}}}
	for _, p := range primes {
		g := f{}
		for _, a := range long {
			_, rest, e := big.Divide(a, big.From(int64(p)))
			must(t, e)
			n := uint64(0)
			if len(rest.Mag) > 0 {
				n = rest.Mag[0]
			}
			if rest.Neg {
				n = p - n
			}
			g = append(g, n)
		}
		for len(g) > 0 && g[len(g)-1] == 0 {
			g = g[:len(g)-1]
		}
		if got, e := modp.Of(long, p); e != api.OK || !slices.Equal(got, g) {
			t.Errorf("modulo %d: %d, %d, not %d", p, got, e, g)
		}
	}
	for i, a := range []api.Poly{ints(1, 0), {{Neg: true}, big.From(1)}, {{Mag: api.Nat{1, 0}}}, append(make(api.Poly, api.MaxDeg+1), big.From(1))} {
		if g, e := modp.Of(a, 5); g != nil || e != api.ErrModForm {
			t.Errorf("none, %d: %d, %d", i, g, e)
		}
	}
	for _, p := range []uint64{0, 1, 4, api.MaxPrime} {
		if g, e := modp.Of(ints(1), p); g != nil || e != api.ErrModForm {
			t.Errorf("modulo %d: %d, %d", p, g, e)
		}
	}
}

// P11.2
func TestReckoned(t *testing.T) {
	told := func(g f, e api.Errno) f {
		t.Helper()
		must(t, e)
		return g
	}
	for i, c := range []struct{ got, want f }{
		{told(modp.Add(nil, nil, 2)), nil}, {told(modp.Add(f{1, 1}, f{1, 1}, 2)), nil}, {told(modp.Add(f{1, 2, 3}, f{6}, 7)), f{0, 2, 3}},
		{told(modp.Add(f{6}, f{1, 2, 3}, 7)), f{0, 2, 3}}, {told(modp.Add(f{large - 1}, f{large - 1}, large)), f{large - 2}},
		{told(modp.Sub(nil, f{1, 2}, 3)), f{2, 1}}, {told(modp.Sub(f{1, 2}, nil, 3)), f{1, 2}}, {told(modp.Sub(f{1, 2}, f{1, 2}, 3)), nil},
		{told(modp.Sub(f{0, 1, 1}, f{1, 0, 1}, 3)), f{2, 1}},
		{told(modp.Mul(nil, f{1, 2}, 3)), nil}, {told(modp.Mul(f{1, 2}, nil, 3)), nil}, {told(modp.Mul(f{1, 1}, f{1, 1}, 2)), f{1, 0, 1}},
		{told(modp.Mul(f{2}, f{3, 4}, 5)), f{1, 3}}, {told(modp.Mul(power(api.MaxDeg), f{3}, 5)), append(make(f, api.MaxDeg), 3)},
		{told(modp.Mul(power(api.MaxDeg), nil, 5)), nil}, {told(modp.Mul(power(1000), power(24), 5)), power(api.MaxDeg)},
		{told(modp.Der(nil, 2)), nil}, {told(modp.Der(f{1}, 2)), nil}, {told(modp.Der(f{1, 0, 1}, 2)), nil}, {told(modp.Der(f{4, 3, 2, 1}, 5)), f{3, 4, 3}},
		{told(modp.Der(f{1, 1, 1, 1}, 3)), f{1, 2}}, {told(modp.Der(power(1021), 1021)), nil}, {told(modp.Der(power(3), large)), f{0, 0, 3}},
		{told(modp.Monic(nil, 7)), nil}, {told(modp.Monic(f{3}, 7)), f{1}}, {told(modp.Monic(f{1, 0, 3}, 7)), f{5, 0, 1}}, {told(modp.Monic(f{1, 0, 1}, 2)), f{1, 0, 1}},
		{told(modp.Monic(f{1, large - 1}, large)), f{large - 1, 1}},
	} {
		if !slices.Equal(c.got, c.want) {
			t.Errorf("%d: %d", i, c.got)
		}
	}
	for _, c := range [][2]f{{power(api.MaxDeg), f{0, 1}}, {f{0, 1}, power(api.MaxDeg)}, {power(api.MaxDeg), power(api.MaxDeg)}, {power(513), power(512)}} {
		if g, e := modp.Mul(c[0], c[1], 2); g != nil || e != api.ErrModForm {
			t.Errorf("%d, %d", g, e)
		}
	}
}

// P11.2
func TestEval(t *testing.T) {
	for i, c := range []struct {
		g          f
		x, p, want uint64
	}{
		{nil, 1, 2, 0}, {f{1}, 0, 2, 1}, {f{1, 1}, 1, 2, 0}, {f{3, 2, 1}, 4, 5, 2}, {f{1, 1}, large - 1, large, 0}, {f{0, 0, 1}, large - 1, large, 1},
		{power(api.MaxDeg), 2, 1021, 16},
	} {
		if v, e := modp.Eval(c.g, c.x, c.p); e != api.OK || v != c.want {
			t.Errorf("%d: %d, %d", i, v, e)
		}
	}
	for _, x := range []uint64{5, 6, math.MaxUint64} {
		if v, e := modp.Eval(f{1, 1}, x, 5); e != api.ErrModForm || v != 0 {
			t.Errorf("at %d: %d, %d", x, v, e)
		}
	}
}

// P11.3
func TestDivMod(t *testing.T) {
	r := rand.New(rand.NewPCG(11, 3))
	for _, p := range primes {
		for range 200 {
			a, g := some(r, r.IntN(30), p), some(r, 1+r.IntN(20), p)
			quo, rest, e := modp.DivMod(a, g, p)
			held(t, quo, e, p)
			held(t, rest, e, p)
			back, e := modp.Mul(quo, g, p)
			must(t, e)
			back, e = modp.Add(back, rest, p)
			must(t, e)
			if len(rest) >= len(g) || !slices.Equal(back, a) {
				t.Fatalf("%d by %d modulo %d: %d, %d", a, g, p, quo, rest)
			}
		}
	}
	for _, a := range []f{nil, {1}, {1, 2, 3}} {
		if quo, rest, e := modp.DivMod(a, nil, 5); quo != nil || rest != nil || e != api.ErrModZero {
			t.Errorf("by 0: %d, %d, %d", quo, rest, e)
		}
	}
	if _, _, e := modp.DivMod(f{7}, nil, 5); e != api.ErrModForm {
		t.Errorf("no polynomial by 0: %d", e)
	}
}

// monics are all monic polynomials of degrees below n.
func monics(n int, p uint64) []f {
	var l []f
	count := uint64(1)
	for degree := range n {
		for i := range count {
			g := power(degree)
			for k := range degree {
				g[k], i = i%p, i/p
			}
			l = append(l, g)
		}
		count *= p
	}
	return l
}

func divides(t *testing.T, d, g f, p uint64) bool {
	t.Helper()
	_, rest, e := modp.DivMod(g, d, p)
	must(t, e)
	return len(rest) == 0
}

// P11.3: of all common divisors it is the one of the highest degree.
func TestGcd(t *testing.T) {
	for _, p := range []uint64{2, 3} {
		all := monics(5, p)
		for i, a := range all {
			b := all[(i*i+7)%len(all)]
			var want f
			for _, d := range all {
				if divides(t, d, a, p) && divides(t, d, b, p) {
					want = d
				}
			}
			if g, e := modp.Gcd(a, b, p); e != api.OK || !slices.Equal(g, want) {
				t.Errorf("%d, %d modulo %d: %d, %d, not %d", a, b, p, g, e, want)
			}
		}
	}
	for i, c := range []struct {
		a, b f
		p    uint64
		want f
	}{
		{nil, nil, 5, nil}, {nil, f{2}, 5, f{1}}, {f{2}, nil, 5, f{1}}, {nil, f{1, 2}, 5, f{3, 1}}, {f{1, 2}, nil, 5, f{3, 1}},
		{f{4, 0, 1}, f{3, 2}, 5, f{4, 1}}, {f{3}, f{1, 1}, 5, f{1}}, {power(1024), power(1000), 7, power(1000)},
	} {
		if g, e := modp.Gcd(c.a, c.b, c.p); e != api.OK || !slices.Equal(g, c.want) {
			t.Errorf("%d: %d, %d", i, g, e)
		}
	}
}

// P11.3
func TestPow(t *testing.T) {
	r := rand.New(rand.NewPCG(11, 4))
	for _, p := range primes {
		for range 20 {
			a, g := some(r, r.IntN(12), p), some(r, 1+r.IntN(8), p)
			_, want, e := modp.DivMod(f{1}, g, p)
			must(t, e)
			for n := range uint64(20) {
				if got, e := modp.Pow(a, n, g, p); e != api.OK || !slices.Equal(got, want) {
					t.Fatalf("%d to the %d modulo %d, %d: %d, %d, not %d", a, n, g, p, got, e, want)
				}
				want, e = modp.Mul(want, a, p)
				must(t, e)
				_, want, e = modp.DivMod(want, g, p)
				must(t, e)
			}
		}
	}
	for i, c := range []struct {
		a    f
		n    uint64
		g    f
		p    uint64
		want f
	}{
		{nil, 0, f{0, 1}, 5, f{1}}, {nil, 0, f{2}, 5, nil}, {nil, 1, f{0, 1}, 5, nil}, {nil, math.MaxUint64, f{0, 0, 1}, 5, nil}, {f{1, 1}, 7, f{3}, 5, nil},
		{f{0, 1}, 5, f{1, 0, 1}, 5, f{0, 1}}, {f{2}, math.MaxUint64, f{0, 1}, 3, f{2}}, {f{large - 1}, math.MaxUint64, f{0, 1}, large, f{large - 1}},
		// 2^64 - 1 is a multiple of 3.
		{f{0, 1}, math.MaxUint64, f{large - 1, 0, 0, 1}, large, f{1}}, {power(api.MaxDeg), 1, power(api.MaxDeg), 2, nil},
	} {
		if g, e := modp.Pow(c.a, c.n, c.g, c.p); e != api.OK || !slices.Equal(g, c.want) {
			t.Errorf("%d: %d, %d", i, g, e)
		}
	}
	for _, a := range []f{nil, {1}, {1, 2, 3}} {
		if g, e := modp.Pow(a, 0, nil, 5); g != nil || e != api.ErrModZero {
			t.Errorf("modulo 0: %d, %d", g, e)
		}
	}
	if _, e := modp.Pow(f{7}, 1, nil, 5); e != api.ErrModForm {
		t.Errorf("no polynomial modulo 0: %d", e)
	}
}

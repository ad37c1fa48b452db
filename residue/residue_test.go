package residue

import (
	ref "math/big"
	"math/rand/v2"
	"slices"
	"testing"

	"terrace/api"
)

// The primes that the table holds, and those that are searched for, are all primes below top, from the greatest on.
func TestPrimes(t *testing.T) {
	var stock Primes
	last := uint64(top)
	for range 3 * len(belowTop) {
		p := stock.Next().Prime().Mag[0]
		for n := last - 1; n > p; n-- {
			if new(ref.Int).SetUint64(n).ProbablyPrime(10) {
				t.Fatalf("%d was left out", n)
			}
		}
		if p >= last || !new(ref.Int).SetUint64(p).ProbablyPrime(20) {
			t.Fatalf("%d after %d is no prime", p, last)
		}
		last = p
	}
}

// From any number on the primes are told that are not above it, none left out.
func TestPrimesBelow(t *testing.T) {
	r := rand.New(rand.NewPCG(3, 4))
	for _, n := range []uint64{top - 1, top - 57, top - 58, top - 59, 1 << 61, 1<<61 - 1, 1<<61 + r.Uint64N(1<<61), 1<<61 + r.Uint64N(1<<61)} {
		stock := Below(n)
		for range 5 {
			p := stock.Next().Prime().Mag[0]
			for ; n > p; n-- {
				if new(ref.Int).SetUint64(n).ProbablyPrime(10) {
					t.Fatalf("%d was left out", n)
				}
			}
			if n != p || !new(ref.Int).SetUint64(p).ProbablyPrime(20) {
				t.Fatalf("%d is no prime, or above %d", p, n)
			}
			n--
		}
	}
}

// No product of two primes passes.
func TestNoPrimes(t *testing.T) {
	for _, n := range []uint64{41 * 41, 3215031751, 3474749660383, 341550071728321, 3825123056546413051, 4611686014132420609, 2147483647 * 2147483629} {
		if isPrime(n) {
			t.Errorf("%d", n)
		}
	}
	for _, n := range []uint64{41, 1<<31 - 1, 1<<61 - 1, 1<<62 - 57} {
		if !isPrime(n) {
			t.Errorf("%d", n)
		}
	}
}

// out tells a as a number of the library.
func out(a api.Int) *ref.Int {
	n := new(ref.Int)
	for _, limb := range slices.Backward(a.Mag) {
		n.Lsh(n, 64).Or(n, new(ref.Int).SetUint64(limb))
	}
	if a.Neg {
		n.Neg(n)
	}
	return n
}

// Sums, products, powers and inverses are those of the library, modulo small primes and great ones.
func TestField(t *testing.T) {
	r := rand.New(rand.NewPCG(1, 2))
	for _, p := range []uint64{3, 5, 101, 1<<31 - 1, 1<<61 - 1, top - 57, top - 1017} {
		f, m := Modulo(p), new(ref.Int).SetUint64(p)
		held := func(what string, got uint64, want *ref.Int) {
			t.Helper()
			n := out(f.Nearest(got))
			if new(ref.Int).Mod(new(ref.Int).Sub(n, want), m).Sign() != 0 || new(ref.Int).Lsh(n, 1).CmpAbs(m) > 0 || got >= p {
				t.Fatalf("%s modulo %d: %d, want %d", what, p, n, want)
			}
		}
		for range 300 {
			a, b := api.Int{Neg: r.IntN(2) == 0, Mag: api.Nat{r.Uint64(), r.Uint64(), r.Uint64() | 1}}, api.Int{Mag: api.Nat{r.Uint64N(20) + 1}}
			if r.IntN(2) == 0 {
				a.Mag = api.Nat{r.Uint64N(5) + p - 2}
			}
			x, y, k := f.Of(a), f.Of(b), r.Uint64N(9)
			held("Of", x, out(a))
			held("Plus", f.Plus(x, y), new(ref.Int).Add(out(a), out(b)))
			held("Minus", f.Minus(x, y), new(ref.Int).Sub(out(a), out(b)))
			held("Times", f.Times(x, y), new(ref.Int).Mul(out(a), out(b)))
			held("Power", f.Power(x, k), new(ref.Int).Exp(out(a), new(ref.Int).SetUint64(k), nil))
			if x != 0 {
				held("Inverse", f.Times(f.Inverse(x), x), ref.NewInt(1))
			}
		}
		held("One", f.One(), ref.NewInt(1))
		held("0", f.Of(api.Int{}), ref.NewInt(0))
		if f.Of(api.Int{}) != 0 || f.Of(f.Prime()) != 0 || f.Nearest(0).Mag != nil {
			t.Errorf("0 modulo %d", p)
		}
	}
}

// Blend is what its words say, of the greatest residues too.
func TestBlend(t *testing.T) {
	r := rand.New(rand.NewPCG(7, 8))
	for _, p := range []uint64{3, 101, 1<<61 - 1, top - 57} {
		f := Modulo(p)
		number := func() uint64 {
			if r.IntN(2) == 0 {
				return p - 1
			}
			return r.Uint64N(p)
		}
		for n := range 20 {
			a, b := make([]uint64, n), make([]uint64, n+r.IntN(2))
			for i := range a {
				a[i] = number()
			}
			for i := range b {
				b[i] = number()
			}
			x, y, z := number(), number(), number()
			var want []uint64
			for i := range a {
				sum := f.Plus(f.Times(x, a[i]), f.Times(z, b[i]))
				if i > 0 {
					sum = f.Plus(sum, f.Times(y, b[i-1]))
				}
				want = append(want, sum)
			}
			if f.Blend(a, b, x, y, z); !slices.Equal(a, want) {
				t.Fatalf("modulo %d: %v, want %v", p, a, want)
			}
		}
	}
}

// Numbers are known once the product of primes is above twice their size, and not changed any more by a further one.
func TestKnown(t *testing.T) {
	numbers := []api.Int{{}, {Mag: api.Nat{1}}, {Neg: true, Mag: api.Nat{1}}, {Mag: api.Nat{5, 1 << 50}}, {Neg: true, Mag: api.Nat{7, 9, 1 << 40}}, {Neg: true, Mag: api.Nat{1<<63 - 1}}}
	known := Nothing(len(numbers))
	var stock Primes
	for n := 1; ; n++ {
		f := stock.Next()
		var residues []uint64
		for _, c := range numbers {
			residues = append(residues, f.Of(c))
		}
		if changed := known.Take(f, residues); changed != (n <= 3) {
			t.Fatalf("prime %d: %t", n, changed)
		}
		if n == 5 {
			break
		}
	}
	for i, c := range numbers {
		if out(known.Numbers[i]).Cmp(out(c)) != 0 {
			t.Errorf("%d: %v", i, known.Numbers[i])
		}
	}
}

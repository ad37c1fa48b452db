package poly

import (
	ref "math/big"
	"testing"
)

// The primes that the table holds, and those that are searched for, are all primes below top, from the greatest on.
func TestPrimes(t *testing.T) {
	var stock primes
	last := uint64(top)
	for range 3 * len(belowTop) {
		p := stock.next()
		for n := last - 1; n > p; n-- {
			if new(ref.Int).SetUint64(n).ProbablyPrime(10) {
				t.Fatalf("%d was left out", n)
			}
		}
		if p >= last || !new(ref.Int).SetUint64(p).ProbablyPrime(20) {
			t.Fatalf("%d after %d is no prime", p, last)
		}
		last = p
	}
}

// No product of two primes passes.
func TestNoPrimes(t *testing.T) {
	for _, n := range []uint64{41 * 41, 3215031751, 3474749660383, 341550071728321, 3825123056546413051, 4611686014132420609, 2147483647 * 2147483629} {
		if isPrime(n) {
			t.Errorf("%d", n)
		}
	}
	for _, n := range []uint64{41, 1<<31 - 1, 1<<61 - 1, 1<<62 - 57} {
		if !isPrime(n) {
			t.Errorf("%d", n)
		}
	}
}

package residue

import "math/bits"

// top is above all primes that are told: a sum of two residues fits into 64 bits.
const top = 1 << 62

// belowTop is how far below top the first primes are: few divisors need more, and these have not to be searched for.
var belowTop = [32]uint64{
	57, 87, 117, 143, 153, 167, 171, 195, 203, 273, 287, 317, 443, 483, 495, 575,
	581, 603, 633, 663, 765, 773, 777, 791, 813, 831, 923, 981, 993, 1001, 1007, 1017,
}

// witnesses tell every number below 2^64 that is no prime, one of them at least (Sorenson, Webster).
var witnesses = [12]uint64{2, 3, 5, 7, 11, 13, 17, 19, 23, 29, 31, 37}

// Primes tells the fields of the primes below 2^62, one after the other, from the greatest on.
type Primes struct {
	told int
	last uint64
}

// Below tells the primes that are not above n, which is below 2^62, far above the witnesses.
func Below(n uint64) Primes {
	return Primes{told: len(belowTop), last: n + n%2 + 1}
}

// Next tells the next prime's field.
func (s *Primes) Next() Field {
	if s.told < len(belowTop) {
		s.last = top - belowTop[s.told]
	} else {
		s.last = primeBelow(s.last)
	}
	s.told++
	return Modulo(s.last)
}

// primeBelow tells the greatest prime below n, which is odd and far above the witnesses.
func primeBelow(n uint64) uint64 {
	for n -= 2; !isPrime(n); n -= 2 {
	}
	return n
}

// isPrime is for numbers below top, above the witnesses.
func isPrime(n uint64) bool {
	for _, w := range witnesses {
		if n%w == 0 {
			return false
		}
	}
	f := Modulo(n)
	for _, w := range witnesses {
		if !f.passes(f.Times(w, f.square)) {
			return false
		}
	}
	return true
}

// passes tells whether f's odd number looks like a prime to w (Miller, Rabin): modulo a prime 1 has no square roots
// but 1 and -1.
func (f Field) passes(w uint64) bool {
	twos := bits.TrailingZeros64(f.p - 1)
	x, minusOne := f.Power(w, (f.p-1)>>uint(twos)), f.Minus(0, f.one)
	if x == f.one {
		return true
	}
	for range twos {
		if x == minusOne {
			return true
		}
		x = f.Times(x, x)
	}
	return false
}

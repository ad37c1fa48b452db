package rat

import (
	"math/bits"
	"slices"

	"terrace/api"
	"terrace/big"
)

// cloneNat copies into memory of its own; 0 is nil, so that it looks one way in every answer.
func cloneNat(x api.Nat) api.Nat {
	if len(x) == 0 {
		return nil
	}
	return slices.Clone(x)
}

func clone(a api.Int) api.Int {
	return api.Int{Neg: a.Neg, Mag: cloneNat(a.Mag)}
}

func isOne(x api.Nat) bool {
	return len(x) == 1 && x[0] == 1
}

// noughts tells how many bits below the lowest one that is set; x is not 0.
func noughts(x api.Nat) (n int) {
	for x[n] == 0 {
		n++
	}
	return 64*n + bits.TrailingZeros64(x[n])
}

func isPowerOfTwo(x api.Nat) bool {
	return len(x) > 0 && noughts(x) == big.Len(api.Int{Mag: x})-1
}

// apart tells whether x and y have no common divisor but 1; y is not 0.
func apart(x, y api.Nat) bool {
	switch {
	case isOne(y):
		return true
	case isPowerOfTwo(y):
		return len(x) > 0 && x[0]%2 == 1
	}
	return isOne(common(x, y))
}

// common tells the greatest common divisor of x and y; y is not 0.
func common(x, y api.Nat) api.Nat {
	switch {
	case isOne(y):
		return api.Nat{1}
	case len(x) == 0:
		return y
	case isPowerOfTwo(y):
		// Ends of intervals are halved over and over: their divisors need no division.
		return powerOfTwo(min(noughts(x), noughts(y)))
	}
	g, _ := big.Gcd(api.Int{Mag: x}, api.Int{Mag: y})
	return g.Mag
}

func powerOfTwo(n int) api.Nat {
	x := make(api.Nat, n/64+1)
	x[n/64] = 1 << uint(n%64)
	return x
}

// over tells n divided by d, which divides it.
func over(n api.Int, d api.Nat) api.Int {
	if isOne(d) {
		return n
	}
	q, _, _ := big.Divide(n, api.Int{Mag: d})
	return q
}

func times(a, b api.Int) api.Int {
	c, _ := big.Mul(a, b)
	return c
}

func timesNat(a api.Int, d api.Nat) api.Int {
	return times(a, api.Int{Mag: d})
}

func plus(a, b api.Int) api.Int {
	c, _ := big.Add(a, b)
	return c
}

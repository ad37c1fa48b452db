package big

import (
	"math/bits"

	"terrace/api"
)

// power tells x to the n, by squares from n's highest bit on.
func power(x api.Nat, n int) api.Nat {
	if n == 0 {
		return api.Nat{1}
	}
	z := clone(x)
	for bit := bits.Len(uint(n)) - 2; bit >= 0; bit-- {
		z = times(z, z)
		if n>>uint(bit)&1 == 1 {
			z = times(z, x)
		}
	}
	return z
}

// root tells the greatest r whose n-th power is not above x, n from 1 on: Newton's way, from a start above it.
func root(x api.Nat, n int) api.Nat {
	if n == 1 {
		return clone(x)
	}
	if len(x) == 0 {
		return nil
	}
	if bitLen(x) <= n {
		return api.Nat{1}
	}
	r := rootStart(x, n)
	for {
		// From above the steps fall till the root is reached, and then no more.
		next := rootStep(x, r, n)
		if compare(next, r) >= 0 {
			return r
		}
		r = next
	}
}

// rootStart tells a number above the root: the root of x's upper half of bits is known to half of its length.
func rootStart(x api.Nat, n int) api.Nat {
	half := bitLen(x) / n / 2
	if half == 0 {
		return shiftUp(api.Nat{1}, (bitLen(x)+n-1)/n)
	}
	return shiftUp(plus(root(shiftDown(x, n*half), n), api.Nat{1}), half)
}

// rootStep tells ((n - 1) r + x / r^(n - 1)) / n, rounded down.
func rootStep(x, r api.Nat, n int) api.Nat {
	q, _ := divide(x, power(r, n-1))
	q = plus(q, times(r, api.Nat{uint64(n - 1)}))
	next, _ := divide(q, api.Nat{uint64(n)})
	return next
}

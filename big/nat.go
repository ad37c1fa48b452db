package big

import (
	"math/bits"

	"terrace/api"
)

const limbBits = 64

// trim drops the upper limbs that are 0. What is left of 0 is nil, so that 0 looks one way in every answer.
func trim(x api.Nat) api.Nat {
	n := len(x)
	for n > 0 && x[n-1] == 0 {
		n--
	}
	if n == 0 {
		return nil
	}
	return x[:n]
}

func clone(x api.Nat) api.Nat {
	if len(x) == 0 {
		return nil
	}
	z := make(api.Nat, len(x))
	copy(z, x)
	return z
}

func ofLimb(w uint64) api.Nat {
	if w == 0 {
		return nil
	}
	return api.Nat{w}
}

// lowLimb tells the lowest limb, also of 0, which has none.
func lowLimb(x api.Nat) uint64 {
	if len(x) == 0 {
		return 0
	}
	return x[0]
}

func bitLen(x api.Nat) int {
	n := len(x)
	if n == 0 {
		return 0
	}
	return n*limbBits - bits.LeadingZeros64(x[n-1])
}

func compare(x, y api.Nat) int {
	switch {
	case len(x) < len(y):
		return -1
	case len(x) > len(y):
		return 1
	}
	for i := len(x) - 1; i >= 0; i-- {
		switch {
		case x[i] < y[i]:
			return -1
		case x[i] > y[i]:
			return 1
		}
	}
	return 0
}

func plus(x, y api.Nat) api.Nat {
	if len(x) < len(y) {
		x, y = y, x
	}
	z := make(api.Nat, len(x)+1)
	copy(z, x)
	addInto(z, y)
	return trim(z)
}

// minus tells x - y; y is not above x.
func minus(x, y api.Nat) api.Nat {
	z := make(api.Nat, len(x))
	copy(z, x)
	subInto(z, y)
	return trim(z)
}

// addInto adds y, which is not longer, to z, and tells what is carried out of z.
func addInto(z, y []uint64) uint64 {
	low := z[:len(y)]
	carry := uint64(0)
	for i, w := range y {
		low[i], carry = bits.Add64(low[i], w, carry)
	}
	for i := len(y); carry != 0 && i < len(z); i++ {
		z[i], carry = bits.Add64(z[i], 0, carry)
	}
	return carry
}

// subInto takes y, which is not longer, from z, and tells what is borrowed from above z.
func subInto(z, y []uint64) uint64 {
	low := z[:len(y)]
	borrow := uint64(0)
	for i, w := range y {
		low[i], borrow = bits.Sub64(low[i], w, borrow)
	}
	for i := len(y); borrow != 0 && i < len(z); i++ {
		z[i], borrow = bits.Sub64(z[i], 0, borrow)
	}
	return borrow
}

// shiftUp tells x times 2^n, in new memory.
func shiftUp(x api.Nat, n int) api.Nat {
	if len(x) == 0 {
		return nil
	}
	limbs := n / limbBits
	z := make(api.Nat, len(x)+limbs+1)
	z[len(z)-1] = upBits(z[limbs:len(z)-1], x, uint(n%limbBits))
	return trim(z)
}

// upBits lays x times 2^s, s below limbBits, into z, which is as long, and tells what leaves it at the top. z may be x.
func upBits(z, x []uint64, s uint) uint64 {
	out := uint64(0)
	for i, w := range x {
		// A shift by limbBits, of s = 0, leaves 0.
		z[i], out = w<<s|out, w>>(limbBits-s)
	}
	return out
}

// shiftDown tells x divided by 2^n, rounded down, in new memory.
func shiftDown(x api.Nat, n int) api.Nat {
	limbs := n / limbBits
	if limbs >= len(x) {
		return nil
	}
	z := make(api.Nat, len(x)-limbs)
	downBits(z, x[limbs:], uint(n%limbBits))
	return trim(z)
}

// downBits lays x divided by 2^s, s below limbBits, into z, which is as long. z may be x.
func downBits(z, x []uint64, s uint) {
	above := uint64(0)
	for i := len(x) - 1; i >= 0; i-- {
		w := x[i]
		z[i] = w>>s | above
		above = w << (limbBits - s)
	}
}

// lowBitsSet tells whether one of the lowest n bits of x is 1.
func lowBitsSet(x api.Nat, n int) bool {
	limbs := n / limbBits
	if limbs >= len(x) {
		return len(x) > 0
	}
	for _, w := range x[:limbs] {
		if w != 0 {
			return true
		}
	}
	return x[limbs]<<(limbBits-uint(n%limbBits)) != 0
}

package big

import (
	"math/bits"

	"terrace/api"
)

// halvesFrom is from how many limbs on a product by halves is faster than one limb by limb.
const halvesFrom = 40

func times(x, y api.Nat) api.Nat {
	if len(x) < len(y) {
		x, y = y, x
	}
	switch {
	case len(y) == 0:
		return nil
	case len(x) == 1:
		return timesLimbs(x[0], y[0])
	}
	z := make(api.Nat, len(x)+len(y))
	switch {
	case len(y) < halvesFrom:
		timesPlain(z, x, y)
	case len(x) == len(y):
		timesHalves(z, x, y, make([]uint64, halvesRoom(len(x))))
	default:
		timesPieces(z, x, y)
	}
	return trim(z)
}

func timesLimbs(x, y uint64) api.Nat {
	hi, lo := bits.Mul64(x, y)
	if hi == 0 {
		return api.Nat{lo}
	}
	return api.Nat{lo, hi}
}

// timesPlain lays x times y into z, limb by limb; z is as long as both together.
func timesPlain(z, x, y []uint64) {
	clear(z)
	for i, w := range y {
		if w != 0 {
			z[i+len(x)] = addTimes(z[i:i+len(x)], x, w)
		}
	}
}

// addTimes adds x times w to z, which is as long as x, and tells what is carried out of z.
func addTimes(z, x []uint64, w uint64) uint64 {
	z = z[:len(x)]
	carry := uint64(0)
	for i, v := range x {
		hi, lo := bits.Mul64(v, w)
		var c uint64
		lo, c = bits.Add64(lo, z[i], 0)
		hi += c
		z[i], c = bits.Add64(lo, carry, 0)
		carry = hi + c
	}
	return carry
}

// timesPieces lays x times y into z; x is longer than y, and is cut into pieces of y's length.
func timesPieces(z, x, y []uint64) {
	n := len(y)
	room := make([]uint64, halvesRoom(n)+2*n)
	piece, rest := room[:2*n], room[2*n:]
	at := 0
	for ; at+n <= len(x); at += n {
		timesHalves(piece, x[at:at+n], y, rest)
		addInto(z[at:], piece)
	}
	if at < len(x) {
		addInto(z[at:], times(y, x[at:]))
	}
}

// halvesRoom tells how much room timesHalves needs beside its answer, for n limbs.
func halvesRoom(n int) int {
	room := 0
	for n >= halvesFrom {
		half := (n + 1) / 2
		room += 4 * half
		n = half
	}
	return room
}

// timesHalves lays x times y, both of n limbs, into z, of 2 n limbs (Karatsuba): with x = x1 B + x0, y = y1 B + y0
// the middle one of the three products is x1 y1 + x0 y0 - (x0 - x1)(y0 - y1).
func timesHalves(z, x, y, room []uint64) {
	n := len(x)
	if n < halvesFrom {
		timesPlain(z, x, y)
		return
	}
	h := (n + 1) / 2
	middle, inner, rest := room[:2*h], room[2*h:4*h], room[4*h:]
	xNeg := distance(middle[:h], x[:h], x[h:])
	yNeg := distance(middle[h:], y[:h], y[h:])
	timesHalves(inner, middle[:h], middle[h:], rest)
	timesHalves(z[:2*h], x[:h], y[:h], rest)
	timesHalves(z[2*h:], x[h:], y[h:], rest)
	copy(middle, z[:2*h])
	top := addInto(middle, z[2*h:])
	if xNeg == yNeg {
		top -= subInto(middle, inner)
	} else {
		top += addInto(middle, inner)
	}
	addInto(z[h:], middle)
	addInto(z[3*h:], []uint64{top})
}

// distance lays |x - y| into z, which is as long as x, and tells whether x is below y; y is not longer than x.
func distance(z, x, y []uint64) bool {
	copy(z, x)
	if subInto(z, y) == 0 {
		return false
	}
	// What was borrowed makes z the complement of the distance.
	carry := uint64(1)
	for i, w := range z {
		z[i], carry = bits.Add64(^w, 0, carry)
	}
	return true
}

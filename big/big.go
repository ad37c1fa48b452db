// Package big: whole numbers: see ../../shared/doc/01-big.md.
package big

import "terrace/api"

// Check tells ErrBigForm of what is no number.
func Check(a api.Int) api.Errno {
	n := len(a.Mag)
	if n == 0 && a.Neg || n > 0 && a.Mag[n-1] == 0 {
		return api.ErrBigForm
	}
	return api.OK
}

// From makes the number n.
func From(n int64) api.Int {
	if n < 0 {
		// Unsigned, since the least int64 has no opposite.
		return api.Int{Neg: true, Mag: api.Nat{-uint64(n)}}
	}
	return signed(false, ofLimb(uint64(n)))
}

// Small tells a as an int64, and whether it is one.
func Small(a api.Int) (int64, bool) {
	if Check(a) != api.OK || len(a.Mag) > 1 {
		return 0, false
	}
	m := lowLimb(a.Mag)
	switch {
	case m < 1<<63 && a.Neg:
		return -int64(m), true
	case m < 1<<63:
		return int64(m), true
	case m == 1<<63 && a.Neg:
		return -1 << 63, true
	}
	return 0, false
}

// Sign tells -1, 0 or 1.
func Sign(a api.Int) int {
	switch {
	case Check(a) != api.OK || len(a.Mag) == 0:
		return 0
	case a.Neg:
		return -1
	}
	return 1
}

// Cmp tells -1, 0 or 1, as a is below b, b, above it.
func Cmp(a, b api.Int) int {
	switch {
	case checkBoth(a, b) != api.OK:
		return 0
	case a.Neg && b.Neg:
		return compare(b.Mag, a.Mag)
	case a.Neg:
		return -1
	case b.Neg:
		return 1
	}
	return compare(a.Mag, b.Mag)
}

// Neg tells the opposite of a.
func Neg(a api.Int) api.Int {
	if Check(a) != api.OK {
		return api.Int{}
	}
	return signed(!a.Neg, clone(a.Mag))
}

// Abs tells a without its sign.
func Abs(a api.Int) api.Int {
	if Check(a) != api.OK {
		return api.Int{}
	}
	return signed(false, clone(a.Mag))
}

// Len tells the least n from 0 with |a| below 2^n.
func Len(a api.Int) int {
	if Check(a) != api.OK {
		return 0
	}
	return bitLen(a.Mag)
}

// Add tells a + b.
func Add(a, b api.Int) (api.Int, api.Errno) {
	if e := checkBoth(a, b); e != api.OK {
		return api.Int{}, e
	}
	return sum(a, b), api.OK
}

// Sub tells a - b.
func Sub(a, b api.Int) (api.Int, api.Errno) {
	if e := checkBoth(a, b); e != api.OK {
		return api.Int{}, e
	}
	return sum(a, signed(!b.Neg, b.Mag)), api.OK
}

// Mul tells a times b.
func Mul(a, b api.Int) (api.Int, api.Errno) {
	if e := checkBoth(a, b); e != api.OK {
		return api.Int{}, e
	}
	return signed(a.Neg != b.Neg, times(a.Mag, b.Mag)), api.OK
}

// Divide tells the quotient of a by b, rounded down, and what is left.
func Divide(a, b api.Int) (api.Int, api.Int, api.Errno) {
	if e := checkBoth(a, b); e != api.OK {
		return api.Int{}, api.Int{}, e
	}
	if len(b.Mag) == 0 {
		return api.Int{}, api.Int{}, api.ErrBigZero
	}
	q, r := divide(a.Mag, b.Mag)
	if a.Neg != b.Neg && len(r) > 0 {
		// The magnitudes' quotient is rounded towards 0: one less is rounded down.
		q, r = plus(q, api.Nat{1}), minus(b.Mag, r)
	}
	return signed(a.Neg != b.Neg, q), signed(b.Neg, r), api.OK
}

// Gcd tells the greatest common divisor, not below 0.
func Gcd(a, b api.Int) (api.Int, api.Errno) {
	if e := checkBoth(a, b); e != api.OK {
		return api.Int{}, e
	}
	return signed(false, commonDivisor(a.Mag, b.Mag)), api.OK
}

// Left tells a times 2^n.
func Left(a api.Int, n int) (api.Int, api.Errno) {
	if e := Check(a); e != api.OK {
		return api.Int{}, e
	}
	if n < 0 || n > api.MaxShift {
		return api.Int{}, api.ErrBigShift
	}
	return signed(a.Neg, shiftUp(a.Mag, n)), api.OK
}

// Right tells a divided by 2^n, rounded down.
func Right(a api.Int, n int) (api.Int, api.Errno) {
	if e := Check(a); e != api.OK {
		return api.Int{}, e
	}
	if n < 0 {
		return api.Int{}, api.ErrBigShift
	}
	m := shiftDown(a.Mag, n)
	if a.Neg && lowBitsSet(a.Mag, n) {
		m = plus(m, api.Nat{1})
	}
	return signed(a.Neg, m), api.OK
}

// Pow tells a to the n.
func Pow(a api.Int, n int) (api.Int, api.Errno) {
	if e := Check(a); e != api.OK {
		return api.Int{}, e
	}
	if n < 0 || n > api.MaxExp {
		return api.Int{}, api.ErrBigShift
	}
	return signed(a.Neg && n%2 == 1, power(a.Mag, n)), api.OK
}

// Root tells the greatest r whose n-th power is not above a.
func Root(a api.Int, n int) (api.Int, api.Errno) {
	if e := Check(a); e != api.OK {
		return api.Int{}, e
	}
	if n < 1 || n > api.MaxExp || a.Neg {
		return api.Int{}, api.ErrBigShift
	}
	return signed(false, root(a.Mag, n)), api.OK
}

// Text tells a's decimal.
func Text(a api.Int) string {
	if Check(a) != api.OK {
		return ""
	}
	return decimal(a)
}

// Parse reads a decimal.
func Parse(s string) (api.Int, api.Errno) {
	m, ok := readDecimal(s)
	if !ok {
		return api.Int{}, api.ErrBigText
	}
	return signed(s[0] == '-', m), api.OK
}

func checkBoth(a, b api.Int) api.Errno {
	if e := Check(a); e != api.OK {
		return e
	}
	return Check(b)
}

// signed joins a sign and a magnitude; 0 has no sign, whichever is asked for.
func signed(neg bool, m api.Nat) api.Int {
	return api.Int{Neg: neg && len(m) > 0, Mag: m}
}

func sum(a, b api.Int) api.Int {
	if a.Neg == b.Neg {
		return signed(a.Neg, plus(a.Mag, b.Mag))
	}
	if compare(a.Mag, b.Mag) < 0 {
		a, b = b, a
	}
	return signed(a.Neg, minus(a.Mag, b.Mag))
}

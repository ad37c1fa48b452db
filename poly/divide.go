package poly

import (
	"math/bits"

	"terrace/api"
	"terrace/big"
)

// takeOut goes down over a, which is changed: each step is shown the coefficients that a multiple of the divisor
// reaches, by x^i, the uppermost of them last; it takes that multiple out, or tells that it cannot. What is left at
// the end lies in the lowest size - 1 coefficients.
func takeOut(a api.Poly, size int, step func(part api.Poly, i int) bool) bool {
	for i := len(a) - size; i >= 0; i-- {
		if !step(a[i:i+size:i+size], i) {
			return false
		}
	}
	return true
}

// pseudo divides by a polynomial whose lead's powers are multiplied in, so that no quotient is a fraction.
type pseudo struct {
	by     api.Poly
	powers []api.Int // of the lead, from 1 on
	quo    api.Poly
}

func pseudoDivided(a, b api.Poly) (q, r api.Poly) {
	k := len(a) - len(b) + 1
	d := &pseudo{by: b, powers: powersOf(lead(b), k), quo: room(k)}
	rest := copied(a)
	takeOut(rest, len(b), d.step)
	return trimmed(d.quo), trimmed(rest[: len(b)-1 : len(b)-1])
}

// step multiplies all it sees by the lead, but for the coefficient that it sees first: that one has to make up for
// the steps ahead, too.
func (d *pseudo) step(part api.Poly, i int) bool {
	last := len(part) - 1
	part[0] = times(part[0], d.powers[len(d.powers)-1-i])
	top := part[last]
	for j, c := range d.by[:last] {
		part[j] = minus(times(part[j], lead(d.by)), times(top, c))
	}
	d.quo[i] = times(top, d.powers[i])
	return true
}

// powersOf tells the powers of a from 1 on, n of them, n above 0.
func powersOf(a api.Int, n int) []api.Int {
	powers := make([]api.Int, n)
	powers[0] = big.From(1)
	for i := 1; i < n; i++ {
		powers[i] = times(powers[i-1], a)
	}
	return powers
}

// exact divides by a polynomial as long as quotients are whole.
type exact struct {
	by   api.Poly
	quo  api.Poly
	most int // bits of a quotient's coefficient
}

// quotient tells q with a = q b, and whether there is one; b is not 0.
func quotient(a, b api.Poly) (api.Poly, bool) {
	switch {
	case len(a) == 0:
		return nil, true
	case len(a) < len(b):
		return nil, false
	}
	k := len(a) - len(b) + 1
	d := &exact{by: b, quo: room(k), most: k + height(a) + bits.Len(uint(len(a)))}
	rest := copied(a)
	if !takeOut(rest, len(b), d.step) || len(trimmed(rest[:len(b)-1])) > 0 {
		return nil, false
	}
	return trimmed(d.quo), true
}

func (d *exact) step(part api.Poly, i int) bool {
	last := len(part) - 1
	digit, left, _ := big.Divide(part[last], lead(d.by))
	// A factor of a has coefficients below 2^k |a| (Mignotte): a quotient that outgrows them will never come out
	// even, however long it would go on growing.
	if !isZero(left) || big.Len(digit) > d.most {
		return false
	}
	if !isZero(digit) {
		for j, c := range d.by[:last] {
			part[j] = minus(part[j], times(digit, c))
		}
	}
	d.quo[i] = digit
	return true
}

// height tells the most bits that a coefficient of p has.
func height(p api.Poly) int {
	most := 0
	for _, c := range p {
		most = max(most, big.Len(c))
	}
	return most
}

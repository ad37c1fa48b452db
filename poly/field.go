package poly

import (
	"terrace/api"
	"terrace/residue"
)

// field is the numbers modulo a prime; its polynomials have the lowest coefficient first, the last one not 0.
type field struct{ residue.Field }

func (f field) image(p api.Poly) []uint64 {
	out := make([]uint64, len(p))
	for i, c := range p {
		out[i] = f.Of(c)
	}
	return withoutNoughts(out)
}

func (f field) scaled(a []uint64, c uint64) []uint64 {
	out := make([]uint64, len(a))
	for i, n := range a {
		out[i] = f.Times(n, c)
	}
	return out
}

func (f field) monic(a []uint64) []uint64 {
	return f.scaled(a, f.Inverse(a[len(a)-1]))
}

// rest tells what is left of a, which is changed, divided by b, whose lead is 1.
func (f field) rest(a, b []uint64) []uint64 {
	last := len(b) - 1
	for i := len(a) - len(b); i >= 0; i-- {
		top, part := a[i+last], a[i:i+last:i+last]
		for j := range part {
			part[j] = f.Minus(part[j], f.Times(top, b[j]))
		}
	}
	return withoutNoughts(a[:min(last, len(a))])
}

// divisor tells the greatest common divisor of a and b, both not 0, with the lead 1.
func (f field) divisor(a, b []uint64) []uint64 {
	return lastRest(f.monic(a), f.monic(b), f.rest, f.monic)
}

// lastRest tells the last remainder that is not 0, of a and b, of b and their remainder, and so on; both leads are 1,
// and both lists may be changed.
func lastRest(a, b []uint64, rest func(a, b []uint64) []uint64, monic func(a []uint64) []uint64) []uint64 {
	for {
		r := rest(a, b)
		if len(r) == 0 {
			return b
		}
		a, b = b, monic(r)
	}
}

func withoutNoughts(a []uint64) []uint64 {
	n := len(a)
	for n > 0 && a[n-1] == 0 {
		n--
	}
	return a[:n:n]
}

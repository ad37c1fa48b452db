package residue

import "slices"

// Polynomials are lists of coefficients, the lowest first; here their last one is not 0, so that nothing at all is 0.

// Trimmed tells a without what is 0 at its end.
func Trimmed(a []uint64) []uint64 {
	n := len(a)
	for n > 0 && a[n-1] == 0 {
		n--
	}
	return a[:n]
}

// Scaled tells a times c, in a's own memory.
func (f Field) Scaled(a []uint64, c uint64) []uint64 {
	for i, n := range a {
		a[i] = f.Times(n, c)
	}
	return a
}

// Monic tells a, which is not 0, divided by its lead, in a's own memory.
func (f Field) Monic(a []uint64) []uint64 {
	if lead := a[len(a)-1]; lead != f.one {
		return f.Scaled(a, f.Inverse(lead))
	}
	return a
}

// Divide tells how often b, whose lead is 1, goes into a, and what is left, both in a's own memory.
func (f Field) Divide(a, b []uint64) (quo, rest []uint64) {
	if len(a) < len(b) {
		return nil, a
	}
	last := len(b) - 1
	for i := len(a) - len(b); i >= 0; i-- {
		top, part := a[i+last], a[i:i+last]
		if top == 0 {
			continue
		}
		for j, c := range b[:last] {
			part[j] = f.Minus(part[j], f.Times(top, c))
		}
	}
	return a[last:], Trimmed(a[:last])
}

// PseudoRest tells the pseudo-remainder of a by b, which is not 0, but for a factor that is a number, in a's own memory;
// b may be multiplied by a number. Most times a is longer by one: then no inverse is needed.
func (f Field) PseudoRest(a, b []uint64) []uint64 {
	last := len(b) - 1
	if len(a) != len(b)+1 || last == 0 {
		_, rest := f.Divide(a, f.Monic(b))
		return rest
	}
	lead, top := b[last], a[last+1]
	f.Blend(a[:last], b, f.Times(lead, lead), f.Minus(0, f.Times(lead, top)), f.Minus(f.Times(top, b[last-1]), f.Times(lead, a[last])))
	return Trimmed(a[:last])
}

// Common tells the greatest common divisor of a and b, which are not 0; its lead is 1.
func (f Field) Common(a, b []uint64) []uint64 {
	a, b = slices.Clone(a), slices.Clone(b)
	for len(b) > 1 {
		a, b = b, f.PseudoRest(a, b)
		if len(b) == 0 {
			return f.Monic(a)
		}
	}
	return []uint64{f.one}
}

// Without tells a divided by b, whose lead is 1, and which divides it, in new memory.
func (f Field) Without(a, b []uint64) []uint64 {
	quo, _ := f.Divide(slices.Clone(a), b)
	return quo
}

// Derivative tells that of a; no power of its variable is as high as the prime.
func (f Field) Derivative(a []uint64) []uint64 {
	if len(a) == 0 {
		return nil
	}
	out, n := make([]uint64, len(a)-1), uint64(0)
	for i, c := range a[1:] {
		n = f.Plus(n, f.one)
		out[i] = f.Times(c, n)
	}
	return out
}

// Through tells the polynomial of the least degree with such values at 0, 1, 2 and on, fewer than the prime (Newton).
func (f Field) Through(values []uint64) []uint64 {
	steps, n := slices.Clone(values), uint64(0)
	for k := 1; k < len(steps); k++ {
		n = f.Plus(n, f.one)
		inverse := f.Inverse(n)
		for i := len(steps) - 1; i >= k; i-- {
			steps[i] = f.Times(f.Minus(steps[i], steps[i-1]), inverse)
		}
	}
	out := make([]uint64, len(steps))
	for k := len(steps) - 1; k >= 0; k-- {
		// n goes back with k.
		for i := len(out) - 1; i > 0; i-- {
			out[i] = f.Minus(out[i-1], f.Times(n, out[i]))
		}
		out[0] = f.Minus(steps[k], f.Times(n, out[0]))
		n = f.Minus(n, f.one)
	}
	return Trimmed(out)
}

package mgcd

import "terrace/residue"

// coprime is thrown where a pseudo-remainder is a constant: two polynomials have no common divisor that the variable
// stands in.
type coprime struct{}

// field is the numbers modulo a prime; an image is a polynomial in one variable over them: the lowest coefficient
// first, the last one not 0.
type field struct{ residue.Field }

func trimmed(a []uint64) []uint64 {
	n := len(a)
	for n > 0 && a[n-1] == 0 {
		n--
	}
	return a[:n]
}

// pseudoRest tells the pseudo-remainder of a, which is changed, by b, but for a factor that is a number. What b's lead
// is multiplied in for reaches the lower coefficients of a only when it is their turn.
func (f field) pseudoRest(a, b []uint64) []uint64 {
	last := len(b) - 1
	lead, scale := b[last], f.One()
	for i := len(a) - len(b); i >= 0; i-- {
		a[i] = f.Times(a[i], scale)
		top := a[i+last]
		if top == 0 {
			continue
		}
		part := a[i : i+last]
		for j, c := range b[:last] {
			part[j] = f.Minus(f.Times(part[j], lead), f.Times(top, c))
		}
		scale = f.Times(scale, lead)
	}
	return trimmed(a[:min(last, len(a))])
}

// lastRest tells the last pseudo-remainder that is not 0, of a and b, of b and their pseudo-remainder, and so on; both
// are changed, and neither is 0.
func (f field) lastRest(a, b []uint64) []uint64 {
	for {
		r := f.pseudoRest(a, b)
		switch len(r) {
		case 0:
			return b
		case 1:
			panic(coprime{})
		}
		a, b = b, r
	}
}

// sharedDegree tells the degree of the greatest common divisor of a and b, which are changed, and neither is 0.
func (f field) sharedDegree(a, b []uint64) (degree int) {
	defer func() {
		switch r := recover(); r.(type) {
		case nil:
		case coprime:
			degree = 0
		default:
			panic(r)
		}
	}()
	return len(f.lastRest(a, b)) - 1
}

// scaled tells a times c, in a's own memory.
func (f field) scaled(a []uint64, c uint64) []uint64 {
	for i, n := range a {
		a[i] = f.Times(n, c)
	}
	return a
}

// ratio tells a, which is changed, divided by b, whose lead is 1, and which divides it.
func (f field) ratio(a, b []uint64) []uint64 {
	last := len(b) - 1
	for i := len(a) - len(b); i >= 0; i-- {
		top, part := a[i+last], a[i:i+last]
		for j, c := range b[:last] {
			part[j] = f.Minus(part[j], f.Times(top, c))
		}
	}
	return a[last:]
}

// solved tells for each list of sums the numbers c with sums[s - 1] = the sum of all c[j] nodes[j]^s, s from 1 on. The
// nodes are as many as the sums, and not 0. Two nodes that are alike are bad luck.
func (f field) solved(nodes []uint64, lists [][]uint64) [][]uint64 {
	out, ok := f.Solve(nodes, lists)
	if !ok {
		panic(unlucky{})
	}
	return out
}

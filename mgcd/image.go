package mgcd

import "terrace/residue"

// coprime is thrown where a pseudo-remainder is a constant: two polynomials have no common divisor that the variable
// stands in.
type coprime struct{}

// field is the numbers modulo a prime; an image is a polynomial in one variable over them: the lowest coefficient
// first, the last one not 0.
type field struct{ residue.Field }

// lastRest tells the last pseudo-remainder that is not 0, of a and b, of b and their pseudo-remainder, and so on; both
// are changed, and neither is 0.
func (f field) lastRest(a, b []uint64) []uint64 {
	for {
		r := f.PseudoRest(a, b)
		switch len(r) {
		case 0:
			return b
		case 1:
			panic(coprime{})
		}
		a, b = b, r
	}
}

// sharedDegree tells the degree of the greatest common divisor of a and b, which are changed, and neither is 0.
func (f field) sharedDegree(a, b []uint64) (degree int) {
	defer func() {
		switch r := recover(); r.(type) {
		case nil:
		case coprime:
			degree = 0
		default:
			panic(r)
		}
	}()
	return len(f.lastRest(a, b)) - 1
}

// solved tells for each list of sums the numbers c with sums[s - 1] = the sum of all c[j] nodes[j]^s, s from 1 on. The
// nodes are as many as the sums, and not 0. Two nodes that are alike are bad luck.
func (f field) solved(nodes []uint64, lists [][]uint64) [][]uint64 {
	out, ok := f.Solve(nodes, lists)
	if !ok {
		panic(unlucky{})
	}
	return out
}

package berl

import "terrace/api"

// rows are the rows of a matrix as far as they are laid down: each at the place of its first number that is not 0,
// which is made 1. Behind the matrix' width stands how often each row that was handed in goes into it.
type rows [api.MaxDeg][]uint64

// lay lays down the row with number i, less multiples of those that are there. If nothing is left of it, it tells
// how often each row, this one among them, goes into the sum 0.
func (p prime) lay(laid *rows, row api.FPoly, width, i int) api.FPoly {
	long := make([]uint64, width+i+1)
	copy(long, row)
	long[width+i] = 1
	for k := range width {
		c := long[k] % uint64(p)
		if c != 0 && laid[k] == nil {
			p.times(long, p.inverse(c))
			laid[k] = long
			return nil
		}
		if c != 0 {
			plus(long[k:], laid[k][k:], uint64(p)-c)
		}
	}
	p.times(long, 1)
	return long[width:]
}

// kernel tells polynomials, the sums of whose multiples are all those that modulo f, which is monic and has no
// squares, are their own powers by p: all that are a number modulo each of f's irreducible factors. So they are as
// many as these.
func (p prime) kernel(f api.FPoly) []api.FPoly {
	var laid rows
	var found []api.FPoly
	degree := len(f) - 1
	step := p.rest(append(make(api.FPoly, p), 1), f)
	power := p.rest(api.FPoly{1}, f)
	for i := range degree {
		row := make(api.FPoly, degree)
		copy(row, power)
		row[i] += uint64(p) - 1
		if v := p.lay(&laid, row, degree, i); v != nil {
			found = append(found, v)
		}
		power = p.product(step, power, f)
	}
	return found
}

// minimal tells the shortest polynomial that makes 0 modulo f of v.
func (p prime) minimal(v, f api.FPoly) api.FPoly {
	var laid rows
	degree := len(f) - 1
	power := p.rest(api.FPoly{1}, f)
	for i := 0; ; i++ {
		if m := p.lay(&laid, power, degree, i); m != nil {
			return m
		}
		power = p.product(v, power, f)
	}
}

package residue

import "math/bits"

// Polynomials are lists of coefficients here, the lowest first.

// WithRoots tells the polynomial with the lead 1 and such roots.
func (f Field) WithRoots(roots []uint64) []uint64 {
	out := make([]uint64, len(roots)+1)
	out[0] = f.one
	for n, root := range roots {
		for i := n + 1; i > 0; i-- {
			out[i] = f.Minus(out[i-1], f.Times(out[i], root))
		}
		out[0] = f.Minus(0, f.Times(out[0], root))
	}
	return out
}

// WithoutRoot tells a divided by x - root, which divides it.
func (f Field) WithoutRoot(a []uint64, root uint64) []uint64 {
	out := make([]uint64, len(a)-1)
	carry := uint64(0)
	for i := len(out) - 1; i >= 0; i-- {
		carry = f.Plus(a[i+1], f.Times(carry, root))
		out[i] = carry
	}
	return out
}

// Value tells that of a at x.
func (f Field) Value(a []uint64, x uint64) uint64 {
	out := uint64(0)
	for i := len(a) - 1; i >= 0; i-- {
		out = f.Plus(f.Times(out, x), a[i])
	}
	return out
}

// Dot tells the sum of all a[i] b[i], as far as a goes. It is brought down once, being kept below the prime times 2^64.
func (f Field) Dot(a, b []uint64) uint64 {
	var high, low, carry uint64
	for i, n := range a {
		more, less := bits.Mul64(n, b[i])
		low, carry = bits.Add64(low, less, 0)
		if high += more + carry; high >= f.p {
			high -= f.p
		}
	}
	take, _ := bits.Mul64(low*f.inverse, f.p)
	if high < take {
		high += f.p
	}
	return high - take
}

// Solve tells for each list of sums the numbers c with sums[s - 1] = the sum of all c[j] nodes[j]^s, s from 1 on, and
// false, if two nodes are alike. The nodes are not 0, and no list has fewer sums. With the nodes' polynomial divided by
// one of its factors, all other nodes drop out of the sum of its coefficients times the sums.
func (f Field) Solve(nodes []uint64, lists [][]uint64) ([][]uint64, bool) {
	all := f.WithRoots(nodes)
	out := make([][]uint64, len(lists))
	for i := range out {
		out[i] = make([]uint64, len(nodes))
	}
	for j, node := range nodes {
		part := f.WithoutRoot(all, node)
		own := f.Times(f.Value(part, node), node)
		if own == 0 {
			return nil, false
		}
		inverse := f.Inverse(own)
		for i, sums := range lists {
			out[i][j] = f.Times(f.Dot(part, sums), inverse)
		}
	}
	return out, true
}

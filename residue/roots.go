package residue

import "slices"

// shifts is how many numbers are tried to part roots by: each one parts two of them with a chance of one half.
const shifts = 64

// Roots tells all roots of a, whose lead is 1, in the order of their residues, and whether there are as many as its
// degree, all of them unlike.
func (f Field) Roots(a []uint64) ([]uint64, bool) {
	roots := f.parted(a, f.one)
	slices.Sort(roots)
	return roots, len(roots) == len(a)-1 && len(slices.Compact(slices.Clone(roots))) == len(roots)
}

// parted parts a by which of its roots have, with a number more each time, square roots (Berlekamp, Rabin). It gives up
// where no number parts it.
func (f Field) parted(a []uint64, number uint64) []uint64 {
	switch len(a) {
	case 1:
		return nil
	case 2:
		return []uint64{f.Minus(0, a[0])}
	}
	for range shifts {
		squares := f.powerModulo(number, f.p/2, a)
		squares[0] = f.Minus(squares[0], f.one)
		number = f.Plus(number, f.one)
		if squares = Trimmed(squares); len(squares) == 0 {
			continue
		}
		g := f.Common(a, f.Monic(squares))
		if len(g) > 1 && len(g) < len(a) {
			return append(f.parted(g, number), f.parted(f.Without(a, g), number)...)
		}
	}
	return nil
}

// powerModulo tells the n-th power of x + c modulo a, whose degree is 2 or more, as long as a's degree.
func (f Field) powerModulo(c, n uint64, a []uint64) []uint64 {
	size := len(a) - 1
	out, room := make([]uint64, size), make([]uint64, 2*size)
	out[0] = f.one
	for bit := uint64(1) << 63; bit > 0; bit >>= 1 {
		f.laySquare(out, room)
		f.Divide(room, a)
		if n&bit == 0 {
			copy(out, room)
			continue
		}
		// What goes over the end by one more x comes back as a multiple of a.
		top := room[size-1]
		for i := size - 1; i > 0; i-- {
			out[i] = f.Minus(f.Plus(room[i-1], f.Times(c, room[i])), f.Times(top, a[i]))
		}
		out[0] = f.Minus(f.Times(c, room[0]), f.Times(top, a[0]))
	}
	return out
}

// laySquare lays a's square into room, which is twice as long.
func (f Field) laySquare(a, room []uint64) {
	turned := slices.Clone(a)
	slices.Reverse(turned)
	for k := range 2*len(a) - 1 {
		from := max(0, k-len(a)+1)
		room[k] = f.Dot(a[from:k-from+1], turned[len(a)-1-k+from:])
	}
	room[2*len(a)-1] = 0
}

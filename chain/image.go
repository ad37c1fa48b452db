package chain

import "terrace/residue"

// cheap is about how many products an inverse costs.
const cheap = 128

// field is the numbers modulo a prime; an image is a polynomial in v over them, the lowest coefficient first. Its length
// tells the degree that counts: the last coefficients may be 0.
type field struct {
	residue.Field
	small []uint64 // 0, 1, 2 and on
}

// modulo tells a field, with the small numbers up to n.
func modulo(f residue.Field, n int) field {
	small := make([]uint64, n+1)
	for i := 1; i <= n; i++ {
		small[i] = f.Plus(small[i-1], f.One())
	}
	return field{f, small}
}

// image tells the determinants that are asked for, of images of a and b, which are changed.
func (q *question) image(f field, a, b []uint64) []uint64 {
	switch q.kind {
	case disc:
		b[0] = f.discriminant(a, b)
		return b[:1]
	case single:
		return f.subresultant(a, b, q.j)[q.j:]
	}
	return f.subresultant(a, b, q.j)
}

// parts tells what images are made of: of a discriminant a alone.
func (q *question) parts() [2][]sum {
	if q.kind == disc {
		return [2][]sum{q.a}
	}
	return [2][]sum{q.a, q.b}
}

// subresultant tells the determinants of all M_j,i, of a and b as they stand, which are changed. As long as both have
// rows, the longer one is reduced by the other; each time that a's first coefficient, or b's, is 0, the first column has
// one cell alone, the other one's.
func (f field) subresultant(a, b []uint64, j int) []uint64 {
	num, den := f.One(), f.One()
	more := f.One() // by what each row of the shorter one has too much
	for len(a) > j+1 && len(b) > j+1 {
		if len(a) < len(b) {
			a, b = b, a
			num = f.turned(num, (len(a)-1-j)*(len(b)-1-j))
		}
		m, n := len(a)-1, len(b)-1
		lead, shorter := b[n], n
		if lead == 0 {
			num, b, shorter = f.Times(num, a[m]), b[:n], n-1
		} else {
			more = f.Times(more, f.reduce(a, b))
			shorter = max(len(residue.Trimmed(a[:n]))-1, j)
			num = f.turned(f.Times(num, f.Power(lead, uint64(m-shorter))), (m-shorter)*(n-j))
			a = a[:shorter+1]
		}
		den = f.Times(den, f.Power(more, uint64(n-shorter)))
	}
	if len(a) > j+1 {
		a, b = b, a
	}
	num = f.Times(num, f.Power(a[j], uint64(len(b)-j-2)))
	return f.Scaled(a, f.Times(num, f.Inverse(den)))
}

// reduce takes multiples of b, whose last coefficient is not 0, out of a, and tells of what multiple of a. Most times a
// is longer by one, and no inverse is needed.
func (f field) reduce(a, b []uint64) uint64 {
	last := len(b) - 1
	lead, top := b[last], a[len(a)-1]
	if len(a) == len(b)+1 {
		more := f.Times(lead, lead)
		f.Blend(a[:last], b, more, f.Minus(0, f.Times(lead, top)), f.Minus(f.Times(top, b[last-1]), f.Times(lead, a[last])))
		return more
	}
	inverse := f.Inverse(lead)
	for i := len(a) - len(b); i >= 0; i-- {
		f.takeOut(a[i:i+last], b[:last], f.Times(a[i+last], inverse))
	}
	return f.One()
}

// takeOut takes c b out of a, which is as long.
func (f field) takeOut(a, b []uint64, c uint64) {
	if c == 0 {
		return
	}
	for k, n := range b {
		a[k] = f.Minus(a[k], f.Times(c, n))
	}
}

// discriminant tells that of p as it stands, which is changed, there being room for its derivative: each time that the
// first coefficient is 0, it is the next one's square times that of the others.
func (f field) discriminant(p, room []uint64) uint64 {
	scale := f.One()
	m := len(p) - 1
	for m > 1 && p[m] == 0 {
		m--
		scale = f.Times(scale, f.Times(p[m], p[m]))
	}
	if m == 1 {
		return scale
	}
	for i := range m {
		room[i] = f.Times(f.small[i+1], p[i+1])
	}
	scale = f.turned(f.Times(scale, f.Inverse(p[m])), m*(m-1)/2)
	return f.Times(f.subresultant(p[:m+1], room[:m], 0)[0], scale)
}

// turned tells a, with the other sign if n is odd.
func (f field) turned(a uint64, n int) uint64 {
	if n%2 != 0 {
		return f.Minus(0, a)
	}
	return a
}

// imageCost tells about how many products one image of the answer takes.
func (q *question) imageCost() int {
	return cheap + (q.inA()-q.j+1)*(q.inB()+1)
}

package chain

import (
	"slices"

	"terrace/residue"
)

// cheap is about how many products an inverse costs.
const cheap = 128

// field is the numbers modulo a prime; an image is a polynomial in v over them, the lowest coefficient first. Its length
// tells the degree that counts: the last coefficients may be 0.
type field struct {
	residue.Field
	small []uint64 // 0, 1, 2 and on
}

// modulo tells a field, with the small numbers up to n.
func modulo(f residue.Field, n int) field {
	small := make([]uint64, n+1)
	for i := 1; i <= n; i++ {
		small[i] = f.Plus(small[i-1], f.One())
	}
	return field{f, small}
}

// image tells the determinants that are asked for, of images of a and b, which are changed.
func (q *question) image(f field, a, b []uint64) []uint64 {
	switch q.kind {
	case disc:
		return []uint64{f.discriminant(a)}
	case single:
		return f.subresultant(a, b, q.j)[q.j:]
	}
	return f.subresultant(a, b, q.j)
}

// parts tells what images are made of: of a discriminant a alone.
func (q *question) parts() [2][]sum {
	if q.kind == disc {
		return [2][]sum{q.a}
	}
	return [2][]sum{q.a, q.b}
}

// subresultant tells the determinants of all M_j,i, of a and b as they stand, which are changed. As long as both have
// rows, the longer one is reduced by the other; each time that a's first coefficient, or b's, is 0, the first column has
// one cell alone, the other one's.
func (f field) subresultant(a, b []uint64, j int) []uint64 {
	num, den := f.One(), f.One()
	for len(a) > j+1 && len(b) > j+1 {
		if len(a) < len(b) {
			a, b = b, a
			num = f.turned(num, (len(a)-1-j)*(len(b)-1-j))
		}
		m, n := len(a)-1, len(b)-1
		if b[n] == 0 {
			num, b = f.Times(num, a[m]), b[:n]
			continue
		}
		lead := b[n]
		a = a[:max(f.reduce(a, b, &den, n-j), j+1)]
		shrinks := m + 1 - len(a)
		num = f.turned(f.Times(num, f.Power(lead, uint64(shrinks))), shrinks*(n-j))
	}
	if len(a) > j+1 {
		a, b = b, a
	}
	num = f.Times(num, f.Power(a[j], uint64(len(b)-j-2)))
	return f.scaled(a, f.Times(num, f.Inverse(den)))
}

// reduce takes multiples of b, whose last coefficient is not 0, out of a, and tells how much of a is left. If that is a
// multiple of the remainder, den is multiplied by what it is so for many rows.
func (f field) reduce(a, b []uint64, den *uint64, rows int) int {
	last := len(b) - 1
	if (len(a)-last)*len(a) < cheap {
		for i := len(a) - len(b); i >= 0; i-- {
			f.cross(a[:i+last+1], b)
		}
		*den = f.Times(*den, f.Power(b[last], uint64(rows*(len(a)-last))))
	} else {
		inverse := f.Inverse(b[last])
		for i := len(a) - len(b); i >= 0; i-- {
			f.takeOut(a[i:i+last], b[:last], f.Times(a[i+last], inverse))
		}
	}
	return len(trimmed(a[:last]))
}

// cross multiplies a by b's last coefficient, and takes a multiple of b out of its end.
func (f field) cross(a, b []uint64) {
	last := len(b) - 1
	low, lead, top := len(a)-len(b), b[last], a[len(a)-1]
	f.scaled(a[:low], lead)
	part := a[low : low+last]
	for k, c := range b[:last] {
		part[k] = f.Minus(f.Times(part[k], lead), f.Times(top, c))
	}
}

// takeOut takes c b out of a, which is as long.
func (f field) takeOut(a, b []uint64, c uint64) {
	if c == 0 {
		return
	}
	for k, n := range b {
		a[k] = f.Minus(a[k], f.Times(c, n))
	}
}

// discriminant tells that of p as it stands, which is not changed: each time that the first coefficient is 0, it is the
// next one's square times that of the others.
func (f field) discriminant(p []uint64) uint64 {
	scale := f.One()
	m := len(p) - 1
	for m > 1 && p[m] == 0 {
		m--
		scale = f.Times(scale, f.Times(p[m], p[m]))
	}
	if m == 1 {
		return scale
	}
	res := f.subresultant(slices.Clone(p[:m+1]), f.derived(p[:m+1]), 0)[0]
	scale = f.turned(f.Times(scale, f.Inverse(p[m])), m*(m-1)/2)
	return f.Times(res, scale)
}

func (f field) derived(p []uint64) []uint64 {
	out := make([]uint64, len(p)-1)
	for i := range out {
		out[i] = f.Times(f.small[i+1], p[i+1])
	}
	return out
}

// turned tells a, with the other sign if n is odd.
func (f field) turned(a uint64, n int) uint64 {
	if n%2 != 0 {
		return f.Minus(0, a)
	}
	return a
}

// scaled tells a times c, in a's own memory.
func (f field) scaled(a []uint64, c uint64) []uint64 {
	for i, n := range a {
		a[i] = f.Times(n, c)
	}
	return a
}

func trimmed(a []uint64) []uint64 {
	n := len(a)
	for n > 0 && a[n-1] == 0 {
		n--
	}
	return a[:n]
}

// imageCost tells about how many products one image of the answer takes.
func (q *question) imageCost() int {
	return cheap + (q.inA()-q.j+1)*(q.inB()+1)
}

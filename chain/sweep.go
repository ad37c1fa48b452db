package chain

import (
	"slices"

	"terrace/residue"
)

// sweep goes over a grid modulo one prime.
type sweep struct {
	field
	grid     *grid
	powers   [][][]uint64 // of each variable, where it is each number
	inverses []uint64     // of small numbers
	images   [2][]uint64  // a's and b's, where all other variables are numbers
	left     [2][][]uint64
}

// sweep makes all room that is needed again and again.
func (g *grid) sweep(f residue.Field) *sweep {
	high := max(g.q.inA(), g.q.inB())
	for _, d := range g.bounds {
		high = max(high, d)
	}
	s := &sweep{field: modulo(f, high), grid: g, inverses: make([]uint64, high+1)}
	for n := 1; n <= high; n++ {
		s.inverses[n] = s.Inverse(s.small[n])
	}
	for k, u := range g.vars {
		most := max(degreeOf(g.q.a, u), degreeOf(g.q.b, u))
		var table [][]uint64
		for n := range g.bounds[k] + 1 {
			table = append(table, s.powersOf(s.small[n], most))
		}
		s.powers = append(s.powers, table)
	}
	for i, steps := range g.steps {
		for _, l := range steps.layers {
			s.left[i] = append(s.left[i], make([]uint64, l.left))
		}
	}
	s.images = [2][]uint64{make([]uint64, g.q.inA()+1), make([]uint64, g.q.inB()+1)}
	return s
}

// powersOf tells those of c up to the n-th.
func (f field) powersOf(c uint64, n int) []uint64 {
	out := []uint64{f.One()}
	for i := range n {
		out = append(out, f.Times(out[i], c))
	}
	return out
}

// numbers tells the answer's.
func (s *sweep) numbers() []uint64 {
	var values [2][]uint64
	for i, terms := range s.grid.terms {
		for _, t := range terms {
			values[i] = append(values[i], s.Of(t.coef))
		}
	}
	out := make([]uint64, s.grid.size())
	s.fill(out, 0, values)
	return out
}

// fill lays the numbers of the answer as a polynomial in the variables from the k-th on, the others being numbers; values
// are those of a's and b's terms.
func (s *sweep) fill(out []uint64, k int, values [2][]uint64) {
	g := s.grid
	if k == len(g.vars) {
		for i, image := range s.images {
			clear(image)
			for n, e := range g.steps[i].place {
				image[e] = values[i][n]
			}
		}
		copy(out, g.q.image(s.field, s.images[0], s.images[1]))
		return
	}
	width := len(out) / (g.bounds[k] + 1)
	rows := slices.Collect(slices.Chunk(out, width))
	for n, row := range rows {
		var next [2][]uint64
		for i := range next {
			next[i] = s.left[i][k]
			s.fall(next[i], values[i], g.steps[i].layers[k], s.powers[k][n])
		}
		s.fill(row, k+1, next)
	}
	s.interpolate(rows)
}

// fall tells what terms become where a variable has such powers.
func (s *sweep) fall(out, values []uint64, l layer, powers []uint64) {
	clear(out)
	for i, c := range values {
		to := l.to[i]
		out[to] = s.Plus(out[to], s.Times(c, powers[l.exp[i]]))
	}
}

// interpolate makes coefficients of values at 0, 1, 2 and on, by differences that are divided (Newton); each row stands
// for many.
func (s *sweep) interpolate(rows [][]uint64) {
	for n := 1; n < len(rows); n++ {
		for i := len(rows) - 1; i >= n; i-- {
			for c, x := range rows[i] {
				rows[i][c] = s.Times(s.Minus(x, rows[i-1][c]), s.inverses[n])
			}
		}
	}
	for n := len(rows) - 2; n > 0; n-- {
		for i := n; i < len(rows)-1; i++ {
			s.takeOut(rows[i], rows[i+1], s.small[n])
		}
	}
}

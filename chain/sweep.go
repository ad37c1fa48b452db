package chain

import "terrace/residue"

// sweep goes over a grid modulo one prime.
type sweep struct {
	field
	grid   *grid
	powers [][][]uint64  // of each variable, where it is each number
	tables [][][]uint64  // what coefficients are made of, for each variable
	left   [2][][]uint64 // what a's and b's terms have become after each layer: room that is used again and again
	images [2][]uint64   // a's and b's, where all other variables are numbers: such room too
}

func (g *grid) sweep(f residue.Field) *sweep {
	high := max(g.q.inA(), g.q.inB())
	for _, d := range g.bounds {
		high = max(high, d)
	}
	s := &sweep{field: modulo(f, high), grid: g}
	for k, u := range g.vars {
		nodes := s.small[:g.bounds[k]+1]
		most := max(degreeOf(g.q.a, u), degreeOf(g.q.b, u))
		var list [][]uint64
		for _, n := range nodes {
			list = append(list, s.powersOf(n, most))
		}
		s.powers, s.tables = append(s.powers, list), append(s.tables, s.table(nodes))
	}
	for i, steps := range g.steps {
		for _, l := range steps.layers {
			s.left[i] = append(s.left[i], make([]uint64, l.left))
		}
	}
	s.images = [2][]uint64{make([]uint64, g.q.inA()+1), make([]uint64, g.q.inB()+1)}
	return s
}

// table tells for each coefficient by what values at nodes are multiplied to make it (Lagrange).
func (f field) table(nodes []uint64) [][]uint64 {
	out := make([][]uint64, len(nodes))
	for i := range out {
		out[i] = make([]uint64, len(nodes))
	}
	all := f.WithRoots(nodes)
	for k, node := range nodes {
		part := f.WithoutRoot(all, node)
		f.Scaled(part, f.Inverse(f.Value(part, node)))
		for i, c := range part {
			out[i][k] = c
		}
	}
	return out
}

// powersOf tells those of c up to the n-th.
func (f field) powersOf(c uint64, n int) []uint64 {
	out := []uint64{f.One()}
	for i := range n {
		out = append(out, f.Times(out[i], c))
	}
	return out
}

// numbers tells the answer's.
func (s *sweep) numbers() []uint64 {
	var values [2][]uint64
	for i, terms := range s.grid.terms {
		for _, t := range terms {
			values[i] = append(values[i], s.Of(t.coef))
		}
	}
	out := make([]uint64, s.grid.size())
	s.fill(out, 0, values)
	return out
}

// fill lays the numbers of the answer as a polynomial in the variables from the k-th on, the others being numbers; values
// are those of a's and b's terms.
func (s *sweep) fill(out []uint64, k int, values [2][]uint64) {
	g := s.grid
	if k == len(g.vars) {
		for i, image := range s.images {
			clear(image)
			for n, e := range g.steps[i].place {
				image[e] = values[i][n]
			}
		}
		copy(out, g.q.image(s.field, s.images[0], s.images[1]))
		return
	}
	width := len(out) / (g.bounds[k] + 1)
	for n := range g.bounds[k] + 1 {
		var next [2][]uint64
		for i := range next {
			next[i] = s.left[i][k]
			s.fall(next[i], values[i], g.steps[i].layers[k], s.powers[k][n])
		}
		s.fill(out[n*width:(n+1)*width], k+1, next)
	}
	s.interpolate(out, width, s.tables[k])
}

// fall tells what terms become where a variable has such powers.
func (s *sweep) fall(out, values []uint64, l layer, powers []uint64) {
	clear(out)
	for i, c := range values {
		to := l.to[i]
		out[to] = s.Plus(out[to], s.Times(c, powers[l.exp[i]]))
	}
}

// interpolate makes coefficients of values, those for one number after the other, each of such a width.
func (s *sweep) interpolate(out []uint64, width int, table [][]uint64) {
	values := make([]uint64, len(table))
	for c := range width {
		for n := range values {
			values[n] = out[n*width+c]
		}
		for i, row := range table {
			out[i*width+c] = s.Dot(row, values)
		}
	}
}

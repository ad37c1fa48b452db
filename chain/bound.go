package chain

import (
	"slices"

	"terrace/api"
	"terrace/big"
)

// fineness is what 1 is in the numbers of rows and columns: all of them together lose less than 1 by rounding.
const fineness = 1 << 24

// degree tells a bound of the answer's degree in u, which is not v. Each product of cells, one of each row and each
// column, has at most the sum of all rows' and all columns' numbers, whatever the columns' numbers are, and a row's
// being the most that one of its cells is above its column's. They rise from column to column by the degrees of the
// roots of a and b, the greatest ones first: for a resultant no others are better.
func (q *question) degree(u int) int {
	a, b := degreesOf(q.a, u), degreesOf(q.b, u)
	columns := columnsOf(slices.Concat(slopes(a), slopes(b)), q.rows()-1+q.open())
	total := rowsOf(a, columns, q.rowsOfA()) + rowsOf(b, columns, q.rowsOfB())
	for _, n := range columns[:q.rows()-1] {
		total += n
	}
	bound := (total + slices.Max(columns[q.rows()-1:])) / fineness
	if q.kind == disc {
		bound -= a[0]
	}
	return max(bound, 0)
}

// degreesOf tells the degrees in u of p's coefficients, the highest one's first; -1 of 0.
func degreesOf(p []sum, u int) []int {
	out := make([]int, len(p))
	for i, c := range p {
		out[len(p)-1-i] = c.degree(u)
	}
	return out
}

// degreeOf tells the degree of p in u.
func degreeOf(p []sum, u int) int {
	return slices.Max(degreesOf(p, u))
}

// slopes tells by how much the least concave line above the degrees rises from each to the next: the degrees of all
// roots but those that are 0.
func slopes(degrees []int) []int {
	var out []int
	for i, best := 0, 0; i < len(degrees)-1; i = best {
		for k := i + 1; k < len(degrees); k++ {
			if degrees[k] >= 0 && (best == i || (degrees[k]-degrees[i])*(best-i) >= (degrees[best]-degrees[i])*(k-i)) {
				best = k
			}
		}
		if best == i {
			break
		}
		out = append(out, slices.Repeat([]int{(degrees[best] - degrees[i]) * fineness / (best - i)}, best-i)...)
	}
	return out
}

// columnsOf tells so many columns' numbers: where roots are 0, they go on as those ahead of them.
func columnsOf(slopes []int, columns int) []int {
	slices.Sort(slopes)
	slices.Reverse(slopes)
	out, slope := make([]int, columns), 0
	for c := range columns - 1 {
		if c < len(slopes) {
			slope = slopes[c]
		}
		out[c+1] = out[c] + slope
	}
	return out
}

// rowsOf tells the sum of the numbers of so many rows, each one column further on.
func rowsOf(degrees, columns []int, rows int) int {
	total := 0
	for r := range rows {
		most := degrees[0]*fineness - columns[r]
		for k, d := range degrees[:min(len(degrees), len(columns)-r)] {
			if d >= 0 {
				most = max(most, d*fineness-columns[r+k])
			}
		}
		total += most
	}
	return total
}

// exactness is to what power sizes are raised, lest much is lost by whole bits.
const exactness = 8

// bits tells how many a number of the answer has at the most: by the sizes of rows (Hadamard), that of a cell being the
// sum of its numbers without their signs.
func (q *question) bits() int {
	return (q.rowsOfA()*bitsOfRow(q.a)+q.rowsOfB()*bitsOfRow(q.b))/(2*exactness) + 1
}

// bitsOfRow tells the bits of the square of a row's size, raised.
func bitsOfRow(p []sum) int {
	var square api.Int
	for _, c := range p {
		var size api.Int
		for _, t := range c {
			size, _ = big.Add(size, big.Abs(t.coef))
		}
		size, _ = big.Mul(size, size)
		square, _ = big.Add(square, size)
	}
	if n := big.Len(square); n > 1<<12 {
		return exactness * n
	}
	square, _ = big.Pow(square, exactness)
	return big.Len(square)
}

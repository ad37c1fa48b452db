package chain

import (
	"slices"

	"terrace/api"
)

// most is how many rows there may be.
const most = 2 * api.MaxDeg

// matrix is one on its way to its determinants, by exact divisions (Bareiss). Each row is kept from its first cell on
// that is not 0 to its last one. Where k rows and columns have their pivots, each other cell, were its row up to date,
// would be a determinant of these and its own. A row with a 0 where the pivot stands is but multiplied by the new pivot
// and divided by the last one: that is left till the row is needed, so that most rows of a matrix of few cells wait
// unchanged.
type matrix struct {
	*work
	size    int
	columns int // of which the first size - 1 are in all determinants, and one of the others
	rows    [most][]sum
	from    [most]int  // where each row begins
	terms   [most]int  // how many a row has
	upTo    [most]int  // how many pivots each row is up to date with
	minus   bool       // rows were swapped an odd number of times
	order   []int      // the columns that have pivots
	isTaken [most]bool // whether a column has one
	pivots  []sum      // pivots[k] is the determinant of the first k rows and columns
	whole   []sum      // the row with the last pivot, brought up to date, if it was needed
}

// lay adds so many rows of p, each one column further on: the coefficients at its strides, the highest first.
func (m *matrix) lay(p []sum, stride, rows int) {
	var cells []sum
	for e := len(p) - 1; e >= 0; e -= stride {
		cells = append(cells, p[e])
	}
	for r := range rows {
		m.set(m.size, r, cells[:min(len(cells), m.columns-r)])
		m.size++
	}
}

// set lays cells into row r, from a column on, without noughts at the ends.
func (m *matrix) set(r, from int, cells []sum) {
	for len(cells) > 0 && len(cells[0]) == 0 {
		cells, from = cells[1:], from+1
	}
	for len(cells) > 0 && len(cells[len(cells)-1]) == 0 {
		cells = cells[:len(cells)-1]
	}
	m.rows[r], m.from[r], m.terms[r] = cells, from, 0
	for _, c := range cells {
		m.terms[r] += len(c)
	}
}

// head changes the first cell of row r.
func (m *matrix) head(r int, cell sum) {
	m.set(r, m.from[r], slices.Concat([]sum{cell}, m.rows[r][1:]))
}

// at tells the cell in row r and column c.
func (m *matrix) at(r, c int) sum {
	if i := c - m.from[r]; i >= 0 && i < len(m.rows[r]) {
		return m.rows[r][i]
	}
	return nil
}

// last tells what is left of the last row when all others have had their pivots: the determinants of the first columns,
// but for one, and each of the others. Nothing, if all are 0.
func (m *matrix) last() []sum {
	m.pivots = []sum{constant(1)}
	for k := range m.size - 1 {
		p, c := m.choose(k)
		if p < 0 {
			goto nought
		}
		m.take(p, c, k)
		for r := k + 1; r < m.size; r++ {
			if len(m.at(r, c)) == 0 {
				continue
			}
			m.change(r, c, k)
			if len(m.rows[r]) == 0 {
				goto nought
			}
		}
	}
	return m.finished()
nought:
	return nil
}

// choose tells the row, from k on, and the column whose pivot changes the other rows with the least work; -1, if there
// is a column without a cell. Pivots are sought in the first column and in the last one that are left: in the midst of
// the matrix they would leave long rows on both sides.
func (m *matrix) choose(k int) (row, column int) {
	first, last := m.ends()
	row, least := m.cheapest(k, first)
	other, less := m.cheapest(k, last)
	switch {
	case row < 0 || other < 0:
		return -1, 0
	case less < least:
		return other, last
	}
	return row, first
}

// ends tells the first column and the last one that are in all determinants and have no pivot. Where there is one
// determinant alone, all columns are in it.
func (m *matrix) ends() (first, last int) {
	last = m.size - 2
	if m.columns == m.size {
		last = m.size - 1
	}
	for m.isTaken[first] {
		first++
	}
	for m.isTaken[last] {
		last--
	}
	return first, last
}

// cheapest tells the row, from k on, that has the cheapest pivot in column c, and what that costs; -1, if there is none.
func (m *matrix) cheapest(k, c int) (row, least int) {
	heads, terms := 0, 0
	for r := k; r < m.size; r++ {
		if n := len(m.at(r, c)); n > 0 {
			heads += n
			terms += m.terms[r]
		}
	}
	row = -1
	for r := k; r < m.size; r++ {
		n := len(m.at(r, c))
		if cost := n*(terms-m.terms[r]) + m.terms[r]*(heads-n); n > 0 && (row < 0 || cost < least) {
			row, least = r, cost
		}
	}
	return row, least
}

// take brings the pivot's row p to place k.
func (m *matrix) take(p, c, k int) {
	if p != k {
		m.rows[p], m.rows[k] = m.rows[k], m.rows[p]
		m.from[p], m.from[k] = m.from[k], m.from[p]
		m.terms[p], m.terms[k] = m.terms[k], m.terms[p]
		m.upTo[p], m.upTo[k] = m.upTo[k], m.upTo[p]
		m.minus = !m.minus
	}
	m.order = append(m.order, c)
	m.isTaken[c] = true
	m.whole = nil
	m.pivots = append(m.pivots, m.renewed(m.at(k, c), k, k))
}

// renewed tells a cell of row r up to date with k pivots.
func (m *matrix) renewed(cell sum, r, k int) sum {
	if m.upTo[r] == k || len(cell) == 0 {
		return cell
	}
	return m.ratio(m.pivots[m.upTo[r]], pair{a: cell, b: m.pivots[k]})
}

// change takes the pivot's row k out of row r, where that has a cell in the pivot's column c, too. One of both has to be
// up to date: then the divisor is what the other one is up to date with.
func (m *matrix) change(r, c, k int) {
	pivot, by := m.rows[k], m.pivots[m.upTo[k]]
	if m.upTo[r] < k {
		pivot, by = m.wholePivot(k), m.pivots[m.upTo[r]]
	}
	from := min(m.from[r], m.from[k])
	cells := make([]sum, max(m.from[r]+len(m.rows[r]), m.from[k]+len(pivot))-from)
	head, other := m.at(r, c), pivot[c-m.from[k]]
	for i := range cells {
		if from+i == c {
			continue
		}
		var next sum
		if n := from + i - m.from[k]; n >= 0 && n < len(pivot) {
			next = pivot[n]
		}
		cells[i] = m.ratio(by, pair{a: other, b: m.at(r, from+i)}, pair{a: head, b: next, minus: true})
	}
	m.set(r, from, cells)
	m.upTo[r] = k + 1
}

// wholePivot tells the pivot's row k up to date.
func (m *matrix) wholePivot(k int) []sum {
	if m.whole == nil {
		for _, cell := range m.rows[k] {
			m.whole = append(m.whole, m.renewed(cell, k, k))
		}
	}
	return m.whole
}

// finished tells the last row up to date, in the columns that have no pivot.
func (m *matrix) finished() []sum {
	var out []sum
	for c := range m.columns {
		if m.isTaken[c] {
			continue
		}
		m.order = append(m.order, c)
		out = append(out, m.renewed(m.at(m.size-1, c), m.size-1, m.size-1))
	}
	if m.minus != isOdd(m.order) {
		for i, s := range out {
			out[i] = s.opposite()
		}
	}
	return out
}

package chain

import (
	"slices"

	"terrace/api"
)

// most is how many rows there may be.
const most = 2 * api.MaxDeg

// matrix is one on its way to its determinants, by exact divisions (Bareiss). Each row is kept from its first cell on
// that is not 0. Where pivots stand in the first k rows, each cell below them, were all rows up to date, would be a
// determinant of these k rows and its own. A row with a 0 where the pivot stands is but multiplied by the new pivot and
// divided by the last one: that is left till the row is needed, so that most rows of a matrix of few cells wait
// unchanged.
type matrix struct {
	*work
	size   int
	rows   [most][]sum
	from   [most]int // where each row begins
	terms  [most]int // how many a row has
	upTo   [most]int // how many pivots each row is up to date with
	pivots []sum     // pivots[k] is the determinant of the first k rows
	whole  []sum     // the row with the last pivot, brought up to date, if it was needed
}

// lay adds so many rows of p, each one column further on: the coefficients at its strides, the highest first.
func (m *matrix) lay(p []sum, stride, rows, columns int) {
	var cells []sum
	for e := len(p) - 1; e >= 0; e -= stride {
		cells = append(cells, p[e])
	}
	for r := range rows {
		row := cells[:min(len(cells), columns-r)]
		m.rows[m.size], m.from[m.size], m.terms[m.size] = row, r, count(row)
		m.size++
	}
}

// head changes the first cell of row r.
func (m *matrix) head(r int, cell sum) {
	m.terms[r] += len(cell) - len(m.rows[r][0])
	m.rows[r] = slices.Concat([]sum{cell}, m.rows[r][1:])
}

// last tells what is left of the last row when all others have had their pivots: the determinants of the first columns,
// but for one, and each of the others. Nothing, if all are 0.
func (m *matrix) last() []sum {
	m.pivots = []sum{constant(1)}
	minus := false
	for c := range m.size - 1 {
		p := m.choose(c)
		if p < 0 {
			goto nought
		}
		if p != c {
			m.swap(p, c)
			minus = !minus
		}
		m.whole = nil
		m.pivots = append(m.pivots, m.renewed(m.rows[c][0], c, c))
		for r := c + 1; r < m.size; r++ {
			if m.from[r] != c {
				continue
			}
			m.change(r, c)
			if len(m.rows[r]) == 0 {
				goto nought
			}
		}
	}
	return m.finished(minus)
nought:
	return nil
}

// choose tells the row from c on that changes the others with the least work; -1, if none has a cell in that column.
func (m *matrix) choose(c int) int {
	heads, terms := 0, 0
	for r := c; r < m.size; r++ {
		if m.from[r] == c {
			heads += len(m.rows[r][0])
			terms += m.terms[r]
		}
	}
	best, least := -1, 0
	for r := c; r < m.size; r++ {
		if m.from[r] != c {
			continue
		}
		head := len(m.rows[r][0])
		if cost := head*(terms-m.terms[r]) + m.terms[r]*(heads-head); best < 0 || cost < least {
			best, least = r, cost
		}
	}
	return best
}

func (m *matrix) swap(r, s int) {
	m.rows[r], m.rows[s] = m.rows[s], m.rows[r]
	m.from[r], m.from[s] = m.from[s], m.from[r]
	m.terms[r], m.terms[s] = m.terms[s], m.terms[r]
	m.upTo[r], m.upTo[s] = m.upTo[s], m.upTo[r]
}

// renewed tells a cell of row r up to date with k pivots.
func (m *matrix) renewed(cell sum, r, k int) sum {
	if m.upTo[r] == k || len(cell) == 0 {
		return cell
	}
	return m.ratio(m.pivots[m.upTo[r]], pair{a: cell, b: m.pivots[k]})
}

// change takes the pivot's row c out of row r, which begins in that column, too. One of both has to be up to date: then
// the divisor is what the other one is up to date with.
func (m *matrix) change(r, c int) {
	row, pivot, by := m.rows[r], m.rows[c], m.pivots[m.upTo[c]]
	if m.upTo[r] < c {
		pivot, by = m.wholePivot(c), m.pivots[m.upTo[r]]
	}
	cells := make([]sum, max(len(row), len(pivot))-1)
	for k := range cells {
		var mine, other sum
		if k+1 < len(row) {
			mine = row[k+1]
		}
		if k+1 < len(pivot) {
			other = pivot[k+1]
		}
		cells[k] = m.ratio(by, pair{a: pivot[0], b: mine}, pair{a: row[0], b: other, minus: true})
	}
	first := 0
	for first < len(cells) && len(cells[first]) == 0 {
		first++
	}
	m.rows[r], m.from[r], m.upTo[r] = cells[first:], c+1+first, c+1
	m.terms[r] = count(m.rows[r])
}

// wholePivot tells the pivot's row c up to date.
func (m *matrix) wholePivot(c int) []sum {
	if m.whole == nil {
		for _, cell := range m.rows[c] {
			m.whole = append(m.whole, m.renewed(cell, c, c))
		}
	}
	return m.whole
}

// finished tells the last row up to date, from the column on where its own pivot would stand.
func (m *matrix) finished(minus bool) []sum {
	r := m.size - 1
	out := make([]sum, m.from[r]-r, m.from[r]-r+len(m.rows[r]))
	for _, cell := range m.rows[r] {
		cell = m.renewed(cell, r, r)
		if minus {
			cell = cell.opposite()
		}
		out = append(out, cell)
	}
	return out
}

func count(cells []sum) int {
	n := 0
	for _, c := range cells {
		n += len(c)
	}
	return n
}

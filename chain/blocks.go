package chain

import "slices"

// Where all exponents of v in a differ by multiples of a stride, and so do all in b, each row has cells only where the
// column's number differs from its own by such a multiple: so rows and columns fall into classes, and the matrix into
// blocks, each of them like that of shorter polynomials.

// block is what stands in rows and columns of one class: so many rows of a and of b, columns that are in all
// determinants, and columns of which one is.
type block struct {
	ofA, ofB, fixed, open int
	heads                 bool // the first rows are the first ones of a discriminant
}

// stride tells the greatest one.
func (q *question) stride() int {
	d := 0
	for _, p := range [2][]sum{q.a, q.b} {
		for e, c := range p {
			if len(c) > 0 {
				d = euclid(d, len(p)-1-e)
			}
		}
	}
	return max(d, 1)
}

// euclid tells the greatest common divisor.
func euclid(a, b int) int {
	for b != 0 {
		a, b = b, a%b
	}
	return a
}

// inClass tells how many numbers from 0 to below n are of a class.
func inClass(n, class, stride int) int {
	return max(0, n-class+stride-1) / stride
}

func (q *question) block(class, stride int) block {
	fixed := inClass(q.rows()-1, class, stride)
	return block{
		ofA:   inClass(q.rowsOfA(), class, stride),
		ofB:   inClass(q.rowsOfB(), class, stride),
		fixed: fixed,
		open:  inClass(q.rows()-1+q.open(), class, stride) - fixed,
		heads: class == 0 && q.kind == disc,
	}
}

// openClass tells the class in which one column of several is chosen; -1, if there is a block with more rows than
// columns, or fewer, so that all determinants are 0.
func (q *question) openClass(stride int) int {
	open := -1
	for class := range stride {
		b := q.block(class, stride)
		switch more := b.ofA + b.ofB - b.fixed; {
		case more == 1 && b.open > 0:
			open = class
		case more != 0:
			return -1
		}
	}
	return open
}

// determinants tells those of the first columns, but for one, and each of the others; nothing, if all are 0.
func (q *question) determinants(w *work) []sum {
	stride := q.stride()
	open := q.openClass(stride)
	if open < 0 {
		return nil
	}
	whole, known := constant(1), make(map[block]sum)
	for class := range stride {
		b := q.block(class, stride)
		if class == open || b.fixed == 0 {
			continue
		}
		if known[b] == nil {
			list := q.matrix(w, b, stride).last()
			if list == nil {
				return nil
			}
			known[b] = list[0]
		}
		whole = w.ratio(constant(1), pair{a: whole, b: known[b]})
	}
	if q.isTurned(open, stride) {
		whole = whole.opposite()
	}
	b := q.block(open, stride)
	out := make([]sum, q.open())
	for i, cell := range q.matrix(w, b, stride).last() {
		out[open+stride*(b.fixed+i)-q.rows()+1] = w.ratio(constant(1), pair{a: whole, b: cell})
	}
	return out
}

// matrix tells a block.
func (q *question) matrix(w *work, b block, stride int) *matrix {
	m := &matrix{work: w, columns: b.fixed}
	if b.ofA+b.ofB > b.fixed {
		m.columns += b.open
	}
	m.lay(q.a, stride, b.ofA)
	m.lay(q.b, stride, b.ofB)
	if b.heads {
		m.head(0, constant(1))
		m.head(b.ofA, constant(q.inA()))
	}
	return m
}

// isTurned tells whether determinants change their sign when rows and columns are put into the order of their classes,
// that with the open columns last.
func (q *question) isTurned(open, stride int) bool {
	var rows, columns []int
	for i := range stride {
		class := (open + 1 + i) % stride
		for r := class; r < q.rowsOfA(); r += stride {
			rows = append(rows, r)
		}
		for r := class; r < q.rowsOfB(); r += stride {
			rows = append(rows, q.rowsOfA()+r)
		}
		for c := class; c < q.rows()-1; c += stride {
			columns = append(columns, c)
		}
	}
	return isOdd(rows) != isOdd(columns)
}

// isOdd tells whether an odd number of swaps brings numbers from 0 on into order.
func isOdd(order []int) bool {
	order = slices.Clone(order)
	odd := false
	for i := range order {
		for order[i] != i {
			k := order[i]
			order[i], order[k] = order[k], order[i]
			odd = !odd
		}
	}
	return odd
}

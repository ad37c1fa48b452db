package chain

import (
	"slices"

	"terrace/api"
	"terrace/mpoly"
)

// kind is what is asked.
type kind int

const (
	single kind = iota // the determinant of M_j,j
	every              // the determinants of all M_j,i
	disc               // that of M_0,0, the first column divided by the lead of a, whose derivative b is; but for a sign
)

// question is what is asked about a and b as polynomials in v.
type question struct {
	kind  kind
	polys [2]api.MPoly
	v, j  int
	a, b  []sum // their coefficients, the lowest first, the last one not 0
}

// pose makes a question of polynomials that may be asked about.
func pose(kind kind, a, b api.MPoly, v, j int) *question {
	return &question{kind: kind, polys: [2]api.MPoly{a, b}, v: v, j: j, a: coefficients(a, v), b: coefficients(b, v)}
}

func coefficients(p api.MPoly, v int) []sum {
	list, _ := mpoly.Coefs(p, v)
	out := make([]sum, len(list))
	for i, c := range list {
		out[i] = read(c)
	}
	return out
}

// inA and inB tell a's and b's degrees.
func (q *question) inA() int { return len(q.a) - 1 }
func (q *question) inB() int { return len(q.b) - 1 }

// rowsOfA and rowsOfB tell how many rows of M_j are a's and b's.
func (q *question) rowsOfA() int { return q.inB() - q.j }
func (q *question) rowsOfB() int { return q.inA() - q.j }

// rows tells how many rows M_j has.
func (q *question) rows() int { return q.rowsOfA() + q.rowsOfB() }

// open tells how many columns there are of which one is in each determinant.
func (q *question) open() int {
	if q.kind == every {
		return q.j + 1
	}
	return 1
}

// isOpposite tells whether a discriminant is the opposite of the determinant.
func (q *question) isOpposite() bool {
	return q.kind == disc && q.inA()*(q.inA()-1)/2%2 == 1
}

// eliminated tells the answer by Bareiss' way, unless that is more work than was allowed.
func (q *question) eliminated(limit int) (s sum, ok bool) {
	defer func() {
		switch r := recover(); r.(type) {
		case nil:
		case tired:
			s, ok = nil, false
		default:
			panic(r)
		}
	}()
	list := q.determinants(&work{limit})
	slices.Reverse(list)
	s = joined(list, q.v)
	if q.isOpposite() {
		s = s.opposite()
	}
	return s, true
}

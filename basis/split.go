package basis

import (
	"container/heap"

	"terrace/api"
	"terrace/big"
	"terrace/mgcd"
	"terrace/mpoly"
)

// splitter splits polynomials by what they have in common, till all that is left has nothing in common any more. Alike
// factors are never parted: they stand equally often in all divisors and quotients that are met. And those that are not
// alike are parted at last: else what they stand in would still have something in common, or a factor twice.
type splitter struct {
	v     int
	spot  spot
	left  pieces
	base  []piece // no two have a common factor, none has one twice
	stuck []piece // what cannot be split any more, since what it would be split into is too long to be written out
}

func newSplitter(l []api.MPoly, v int) *splitter {
	s := &splitter{v: v, spot: newSpot(lucky(l, v))}
	for _, p := range l {
		if degree(p, v) == 0 {
			continue
		}
		part, e := mgcd.Part(p, v)
		if e != api.OK {
			s.stuck = append(s.stuck, s.piece(p))
			continue
		}
		s.left = append(s.left, s.piece(part))
	}
	heap.Init(&s.left)
	return s
}

func (s *splitter) piece(p api.MPoly) piece {
	return piece{p: p, degree: degree(p, s.v), image: s.spot.image(p, s.v)}
}

// plainPiece is for what has no factor twice.
func (s *splitter) plainPiece(p api.MPoly) piece {
	x := s.piece(p)
	x.plain = true
	return x
}

// classes tells the products of alike factors, unless one is too long.
func (s *splitter) classes() ([]api.MPoly, bool) {
	for s.left.Len() > 0 {
		p := heap.Pop(&s.left).(piece)
		switch {
		case p.plain || s.looksPlain(p):
			s.lay(p)
		default:
			s.unfold(p)
		}
	}
	return s.told()
}

// told tells the base; but what has something in common with what is stuck has to be searched for.
func (s *splitter) told() ([]api.MPoly, bool) {
	var out, open []api.MPoly
	for _, b := range s.base {
		if s.meetsStuck(b) {
			open = append(open, b.p)
			continue
		}
		out = append(out, b.p)
	}
	if len(s.stuck) == 0 {
		return out, true
	}
	for _, p := range s.stuck {
		open = append(open, p.p)
	}
	found, ok := newSearch(open, s.v).found()
	return append(out, found...), ok
}

func (s *splitter) meetsStuck(b piece) bool {
	for _, p := range s.stuck {
		if s.shared(p, b) != 0 {
			return true
		}
	}
	return false
}

// unfold lays products of those factors that p has equally often back to what is left.
func (s *splitter) unfold(p piece) {
	levels, ok := s.levels(p.p)
	if !ok {
		s.stuck = append(s.stuck, p)
		return
	}
	for _, q := range levels {
		heap.Push(&s.left, s.plainPiece(q))
	}
}

// levels tells the products of those factors that p has once, twice, and so on (Musser), as far as there are such.
func (s *splitter) levels(p api.MPoly) ([]api.MPoly, bool) {
	d := desk{v: s.v, spot: s.spot}
	slope, _ := mpoly.Der(p, s.v)
	more := d.common(p, slope)
	now, _ := d.over(p, more)
	var out []api.MPoly
	for degree(now, s.v) > 0 {
		m, ok := s.meeting(s.piece(more), s.piece(now))
		if !ok {
			return nil, false
		}
		if degree(m.ofB, s.v) > 0 {
			out = append(out, m.ofB)
		}
		more, now = m.ofP, m.both
	}
	return out, !d.refused
}

// lay brings p, which has no factor twice, into the base. Where it would be split into what is too long, it may be that
// it is not, as soon as p is without what it has in common with others.
func (s *splitter) lay(p piece) {
	for {
		refused, moved := false, false
		for i := range s.base {
			q, ok := s.meet(p, i)
			refused = refused || !ok
			moved = moved || q.degree < p.degree
			p = q
		}
		switch {
		case p.degree == 0:
			return
		case !refused:
			s.base = append(s.base, p)
			return
		case !moved:
			s.stuck = append(s.stuck, p)
			return
		}
	}
}

// meet splits p and one of the base by each other, and tells what is left of p; false, if that is refused. What the
// base gets at its end has nothing in common with p any more.
func (s *splitter) meet(p piece, i int) (piece, bool) {
	b := s.base[i]
	if p.degree == 0 || s.shared(p, b) == 0 {
		return p, true
	}
	m, ok := s.meeting(p, b)
	switch {
	case !ok:
		return p, false
	case degree(m.both, s.v) == 0:
		return p, true
	}
	s.base[i] = s.plainPiece(m.both)
	if degree(m.ofB, s.v) > 0 {
		s.base = append(s.base, s.plainPiece(m.ofB))
	}
	return s.plainPiece(m.ofP), true
}

// meeting is what two have in common, and what is left of each.
type meeting struct{ both, ofP, ofB api.MPoly }

// meeting takes the short way where one seems to divide the other.
func (s *splitter) meeting(p, b piece) (meeting, bool) {
	d := desk{v: s.v, spot: s.spot}
	switch s.shared(p, b) {
	case b.degree:
		if left, ok := d.over(p.p, b.p); ok {
			return meeting{both: b.p, ofP: left, ofB: one(b.p)}, !d.refused
		}
	case p.degree:
		if left, ok := d.over(b.p, p.p); ok {
			return meeting{both: p.p, ofP: one(p.p), ofB: left}, !d.refused
		}
	}
	m := meeting{both: d.common(p.p, b.p)}
	m.ofP, _ = d.over(p.p, m.both)
	m.ofB, _ = d.over(b.p, m.both)
	return m, !d.refused
}

// one tells 1 with as many variables as p.
func one(p api.MPoly) api.MPoly {
	q, _ := mpoly.Const(p.Vars, big.From(1))
	return q
}

// looksPlain tells true only if p has no factor twice.
func (s *splitter) looksPlain(p piece) bool {
	if p.image == nil {
		return false
	}
	slope := s.spot.Monic(s.spot.Derivative(p.image))
	return len(s.spot.Common(p.image, slope)) == 1
}

// unknown is a degree.
const unknown = -1

// shared tells the degree of what p and b have in common, as far as the spot shows it: it is never too low.
func (s *splitter) shared(p, b piece) int {
	if p.image == nil || b.image == nil {
		return unknown
	}
	return len(s.spot.Common(p.image, b.image)) - 1
}

// degree is that in v; -1 of 0.
func degree(p api.MPoly, v int) int {
	d, _ := mpoly.Deg(p, v)
	return d
}

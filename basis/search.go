package basis

import (
	"slices"

	"terrace/api"
	"terrace/mgcd"
	"terrace/mpoly"
	"terrace/residue"
)

// tries is how many attempts are made; a second one is next to never needed.
const tries = 1 << 6

// unlucky is thrown where a prime or a point does not show what is there: other ones are then taken.
type unlucky struct{}

// search finds classes where short ones hide in polynomials that have no short quotients: as they show modulo primes
// where all variables but v are numbers, so that nothing else is ever written out. Points and primes hang on each bit
// of the polynomials, and what is found is held against further ones. That proves nothing, but it fails with a chance
// near nil; a proof would go through all terms of the long quotients.
type search struct {
	v     int
	list  []api.MPoly // what is to be split
	leads []api.MPoly // by v; none, if all of them are numbers
	high  degrees
	luck  *residue.Luck
	shape []class // how often classes are, and their degrees in v
	slant []class // the same on lines, and their degrees there
	known []api.MPoly
	open  []int // which classes are not known
}

func newSearch(list []api.MPoly, v int) *search {
	s := &search{v: v, list: list, high: highest(list...), luck: lucky(list, v)}
	s.findLeads()
	return s
}

// found tells all classes, unless one of them is too long.
func (s *search) found() ([]api.MPoly, bool) {
	for range tries {
		if classes, ok, lucky := s.attempt(); lucky {
			return classes, ok
		}
	}
	return nil, false
}

func (s *search) findLeads() {
	alike := true
	for _, p := range s.list {
		coefs, _ := mpoly.Coefs(p, s.v)
		lead := coefs[len(coefs)-1]
		level, _ := mpoly.Level(lead)
		alike = alike && level == 0
		s.leads = append(s.leads, lead)
	}
	if alike {
		s.leads = nil
	}
}

func (s *search) attempt() (classes []api.MPoly, ok, lucky bool) {
	defer func() {
		switch r := recover(); r.(type) {
		case nil:
		case unlucky:
			classes, ok, lucky = nil, false, false
		default:
			panic(r)
		}
	}()
	s.findShape()
	if !s.findKnown() {
		return nil, false, true
	}
	if len(s.open) > 0 {
		where, ok := s.view().terms()
		if !ok {
			return nil, false, true
		}
		s.fill(where)
	}
	s.confirm()
	return s.known, true, true
}

// findShape asks two primes, since all that is refused hangs on it.
func (s *search) findShape() {
	s.shape, s.slant = nil, nil
	for range 2 {
		w := s.view()
		s.shape = w.classesAt(w.at)
		if len(s.leads) > 0 {
			s.slant = w.classesAlong(w.at)
		}
	}
}

// findKnown tells false, if a class that one of the list is alone is too long.
func (s *search) findKnown() bool {
	s.known, s.open = make([]api.MPoly, len(s.shape)), nil
	for i, c := range s.shape {
		k := s.alone(c)
		if k < 0 {
			s.open = append(s.open, i)
			continue
		}
		part, e := mgcd.Part(s.list[k], s.v)
		if e != api.OK {
			return false
		}
		s.known[i] = part
	}
	return true
}

// alone tells which polynomial has nothing else than a class; -1, if none.
func (s *search) alone(c class) int {
	for k, p := range s.list {
		if c.often[k] == 1 && degree(p, s.v) == len(c.image)-1 {
			return k
		}
	}
	return -1
}

// confirm holds what was found against spots that it was not found by.
func (s *search) confirm() {
	for range 2 {
		w := s.view()
		for i, c := range w.classesAt(w.at) {
			image := spot{w.Field, w.at}.image(s.known[i], s.v)
			if !slices.Equal(image, c.image) {
				panic(unlucky{})
			}
		}
	}
}

package basis

import (
	"slices"

	"terrace/residue"
)

// view is what shows of a search modulo a prime.
type view struct {
	*search
	residue.Field
	at     numbers // whose powers are gone through
	turn   numbers // by which one of them is turned, so that exponents show
	way    numbers // where lines lead
	shades []*shade
	heads  []*shade // of the leads
	guides []guide  // of the classes that are sought
}

func (s *search) view() *view {
	f := s.luck.Field()
	w := &view{search: s, Field: f, at: scattered(s.luck, f), turn: scattered(s.luck, f), way: scattered(s.luck, f), guides: make([]guide, len(s.open))}
	for _, p := range s.list {
		w.shades = append(w.shades, shaded(f, p))
	}
	for _, p := range s.leads {
		w.heads = append(w.heads, shaded(f, p))
	}
	return w
}

// classesAt tells those that show at a point.
func (w *view) classesAt(point numbers) []class {
	t := powers(w.Field, point, w.high)
	images := make([][]uint64, len(w.shades))
	for i, p := range w.shades {
		images[i] = w.monic(p.image(t, w.v), p.high[w.v])
	}
	return held(classesOf(w.Field, images), w.shape)
}

// classesAlong tells those that show on the line that leads through a point, without those of factors that v does not
// stand in, which the leads have, too. By getting a lead of 1 a class loses what its highest terms are worth where the
// line leads: the same on all lines that lead there.
func (w *view) classesAlong(point numbers) []class {
	all := slices.Concat(w.shades, w.heads)
	images := w.values(all, point)
	for i, p := range all {
		images[i] = w.monic(w.Through(images[i]), p.total)
	}
	n := len(w.shades)
	seen := slices.DeleteFunc(classesOf(w.Field, images), func(c class) bool {
		return slices.Max(c.often[n:]) > 0
	})
	for i := range seen {
		seen[i].often = seen[i].often[:n]
	}
	return held(seen, w.slant)
}

// values tells those of some polynomials at points of the line, as many as their degrees there ask for.
func (w *view) values(list []*shade, point numbers) [][]uint64 {
	most := 0
	for _, p := range list {
		most = max(most, p.total)
	}
	out := make([][]uint64, len(list))
	for n := range most + 1 {
		t := powers(w.Field, point, w.high)
		for i, p := range list {
			if n <= p.total {
				out[i] = append(out[i], w.Value(p.image(t, w.v), point[w.v]))
			}
		}
		for u := range point {
			point[u] = w.Plus(point[u], w.way[u])
		}
	}
	return out
}

// monic tells an image with a lead of 1, in its own memory. That it is of a lower degree than it should be is bad luck.
func (w *view) monic(image []uint64, degree int) []uint64 {
	if image = residue.Trimmed(image); len(image) <= degree {
		panic(unlucky{})
	}
	return w.Monic(image)
}

// held tells classes that have to be like others, unless these are not known yet.
func held(seen, shape []class) []class {
	if shape != nil && !areLike(seen, shape) {
		panic(unlucky{})
	}
	return seen
}

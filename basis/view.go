package basis

import (
	"iter"
	"slices"

	"terrace/residue"
)

// view is what shows of a search modulo a prime.
type view struct {
	*search
	residue.Field
	at     numbers // whose powers are gone through
	turn   numbers // by which one of them is turned, so that exponents show
	way    numbers // where lines lead
	shades []*shade
	heads  []*shade // of the leads
}

func (s *search) view() *view {
	f := s.luck.Field()
	w := &view{search: s, Field: f, at: scattered(s.luck, f), turn: scattered(s.luck, f), way: scattered(s.luck, f)}
	for _, p := range s.list {
		w.shades = append(w.shades, shaded(f, p))
	}
	for _, p := range s.leads {
		w.heads = append(w.heads, shaded(f, p))
	}
	return w
}

// classesAt tells those that show at a point.
func (w *view) classesAt(point numbers) []class {
	t := powers(w.Field, point, w.high)
	images := make([][]uint64, len(w.shades))
	for i, p := range w.shades {
		images[i] = w.monic(p.image(t, w.v), p.high[w.v])
	}
	return held(classesOf(w.Field, images), w.shape)
}

// classesAlong tells those that show on the line that leads through a point, without those of factors that v does not
// stand in, which the leads have, too. By getting a lead of 1 a class loses what its highest terms are worth where the
// line leads: the same on all lines that lead there.
func (w *view) classesAlong(point numbers) []class {
	all := slices.Concat(w.shades, w.heads)
	images := w.values(all, point)
	for i, p := range all {
		images[i] = w.monic(w.Through(images[i]), p.total)
	}
	n := len(w.shades)
	seen := slices.DeleteFunc(classesOf(w.Field, images), func(c class) bool {
		return slices.Max(c.often[n:]) > 0
	})
	for i := range seen {
		seen[i].often = seen[i].often[:n]
	}
	return held(seen, w.slant)
}

// values tells those of some polynomials at points of the line, as many as their degrees there ask for.
func (w *view) values(list []*shade, point numbers) [][]uint64 {
	most := 0
	for _, p := range list {
		most = max(most, p.total)
	}
	out := make([][]uint64, len(list))
	for n := range most + 1 {
		t := powers(w.Field, point, w.high)
		for i, p := range list {
			if n <= p.total {
				out[i] = append(out[i], w.Value(p.image(t, w.v), point[w.v]))
			}
		}
		for u := range point {
			point[u] = w.Plus(point[u], w.way[u])
		}
	}
	return out
}

// monic tells an image with a lead of 1, in its own memory. That it is of a lower degree than it should be is bad luck.
func (w *view) monic(image []uint64, degree int) []uint64 {
	if image = residue.Trimmed(image); len(image) <= degree {
		panic(unlucky{})
	}
	return w.Monic(image)
}

// held tells classes that have to be like others, unless these are not known yet.
func held(seen, shape []class) []class {
	if shape != nil && !areLike(seen, shape) {
		panic(unlucky{})
	}
	return seen
}

// sight tells what shows at a point of the classes that are sought: their coefficients by v, all times numbers that are
// the same at all points. By getting a lead of 1 an image loses a number that is another one at each point, unless all
// leads are numbers: then what is right is told by its value on a line through the point.
func (w *view) sight(point numbers) []uint64 {
	seen := w.classesAt(point)
	var along []class
	if len(w.heads) > 0 {
		along = w.classesAlong(point)
	}
	var out []uint64
	for _, i := range w.open {
		image := seen[i].image
		if along != nil {
			image = w.valued(image, point[w.v], along[i].image[0])
		}
		out = append(out, image...)
	}
	return out
}

// valued tells the multiple of an image that has such a value at x, in its own memory.
func (w *view) valued(image []uint64, x, value uint64) []uint64 {
	now := w.Value(image, x)
	if now == 0 {
		panic(unlucky{})
	}
	return w.Scaled(image, w.Times(value, w.Inverse(now)))
}

// course tells what shows at each next point: all numbers of a point times w's own, v's apart.
func (w *view) course(point numbers) iter.Seq[[]uint64] {
	return func(yield func([]uint64) bool) {
		for {
			for u := range point {
				if u != w.v {
					point[u] = w.Times(point[u], w.at[u])
				}
			}
			if !yield(w.sight(point)) {
				return
			}
		}
	}
}

// start tells where all numbers are 1, but that of v, which stays as it is.
func (w *view) start() numbers {
	var out numbers
	for u := range out {
		out[u] = w.One()
	}
	out[w.v] = w.at[w.v]
	return out
}

// sums tells for each coefficient what shows of it at the next n points, which are one at the least.
func (w *view) sums(start numbers, n int) [][]uint64 {
	out := make([][]uint64, w.slots())
	for numbers := range w.course(start) {
		for i, c := range numbers {
			out[i] = append(out[i], c)
		}
		if n--; n == 0 {
			break
		}
	}
	return out
}

// slots tells how many coefficients are sought.
func (s *search) slots() int {
	n := 0
	for _, i := range s.open {
		n += len(s.shape[i].image)
	}
	return n
}

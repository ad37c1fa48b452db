package basis

import (
	"slices"

	"terrace/residue"
)

// course goes on from point to point, and sees what shows there of the classes that are sought.
//
// By getting a lead of 1 an image loses a number that is another one at each point, unless all leads are numbers. What
// is right is told by a class's value on a line through the point, which takes long; but as soon as a law is known that
// one of its coefficients follows, this tells it.
type course struct {
	*view
	point numbers
	past  [][]uint64 // for each class the numbers so far of the coefficient by which it is guided
}

// guide is a coefficient of a class, by v, and the law that its numbers follow.
type guide struct {
	power int
	law   []uint64
}

// needs tells how many numbers have to be there for the next one to be foretold.
func (g guide) needs() int {
	return len(g.law) - 1
}

func (w *view) course(start numbers) *course {
	return &course{view: w, point: start, past: make([][]uint64, len(w.open))}
}

// start tells where all numbers are 1, but that of v, which stays as it is.
func (w *view) start() numbers {
	var out numbers
	for u := range out {
		out[u] = w.One()
	}
	out[w.v] = w.at[w.v]
	return out
}

// turned tells the start with another number of u.
func (w *view) turned(u int) numbers {
	out := w.start()
	out[u] = w.turn[u]
	return out
}

// next multiplies all numbers of the point by w's own, v's apart, and tells the coefficients by v that show there, all
// times numbers that are the same at all points.
func (c *course) next() []uint64 {
	for u := range c.point {
		if u != c.v {
			c.point[u] = c.Times(c.point[u], c.at[u])
		}
	}
	seen := c.classesAt(c.point)
	if len(c.heads) > 0 {
		c.amend(seen)
	}
	var out []uint64
	for _, i := range c.open {
		out = append(out, seen[i].image...)
	}
	return out
}

// amend gives images back what they lost.
func (c *course) amend(seen []class) {
	var along []class
	for k, i := range c.open {
		g, image := c.guides[k], seen[i].image
		switch {
		case g.law != nil && len(c.past[k]) >= g.needs():
			c.scaledTo(image, image[g.power], c.foretold(g, c.past[k]))
		default:
			if along == nil {
				along = c.classesAlong(c.point)
			}
			c.scaledTo(image, c.Value(image, c.point[c.v]), along[i].image[0])
		}
		if g.law != nil {
			c.past[k] = append(c.past[k], image[g.power])
		}
	}
}

// scaledTo multiplies an image by what makes one number of another.
func (w *view) scaledTo(image []uint64, now, then uint64) {
	if now == 0 || then == 0 {
		panic(unlucky{})
	}
	w.Scaled(image, w.Times(then, w.Inverse(now)))
}

// foretold tells the next number.
func (w *view) foretold(g guide, past []uint64) uint64 {
	out := uint64(0)
	for i, c := range g.law[1:] {
		out = w.Minus(out, w.Times(c, past[len(past)-1-i]))
	}
	return out
}

// seekGuides takes the shortest of the laws that have settled, where there is no guide yet.
func (c *course) seekGuides(laws []residue.Law) {
	for k, i := range c.open {
		best := -1
		for e := range c.shape[i].image {
			law := &laws[e]
			// A law without its last number would be about a product that is worth nothing.
			if law.Settled() && law.Long > 0 && len(law.Now) == law.Long+1 && (best < 0 || law.Long < laws[best].Long) {
				best = e
			}
		}
		if c.guides[k].law == nil && best >= 0 {
			c.guides[k] = guide{best, slices.Clone(laws[best].Now)}
			c.past[k] = slices.Clone(laws[best].List)
		}
		laws = laws[len(c.shape[i].image):]
	}
}

// setGuides takes those of the coefficients that have the fewest terms, whose nodes are given.
func (w *view) setGuides(nodes [][]uint64) {
	for k, i := range w.open {
		best := -1
		for e := range w.shape[i].image {
			if n := len(nodes[e]); n > 0 && (best < 0 || n < len(nodes[best])) {
				best = e
			}
		}
		law := w.WithRoots(nodes[best])
		slices.Reverse(law)
		w.guides[k] = guide{best, law}
		nodes = nodes[len(w.shape[i].image):]
	}
}

// sums tells for each coefficient what shows of it at the next n points.
func (w *view) sums(start numbers, n int) [][]uint64 {
	out := make([][]uint64, w.slots())
	c := w.course(start)
	for range n {
		for i, number := range c.next() {
			out[i] = append(out[i], number)
		}
	}
	return out
}

// slots tells how many coefficients are sought.
func (s *search) slots() int {
	n := 0
	for _, i := range s.open {
		n += len(s.shape[i].image)
	}
	return n
}

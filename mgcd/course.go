package mgcd

import "terrace/residue"

// course is a sum on its way from point to point: what each of its terms is worth, by what that changes with each step,
// and with what power of x it stands.
type course struct {
	worth, step []uint64
	exp         []int
}

// course starts where some variables are at 1 and all others but x at the spot, and takes those that move to the powers
// of their numbers, from the first power on.
func (s *spot) course(p sum, x int, ones, move mono) course {
	c := course{worth: make([]uint64, len(p)), step: make([]uint64, len(p)), exp: make([]int, len(p))}
	for i, t := range p {
		c.worth[i] = s.Times(s.Of(t.coef), s.worth(t.at.without(ones).without(set(x))))
		c.step[i] = s.worth(t.at.only(move))
		c.exp[i] = t.at.exp(x)
	}
	return c
}

func (c *course) advance(f field) {
	for i, n := range c.step {
		c.worth[i] = f.Times(c.worth[i], n)
	}
}

// image tells the polynomial in x where the course has come to.
func (c *course) image(f field, degree int) []uint64 {
	out := make([]uint64, degree+1)
	for i, n := range c.worth {
		e := c.exp[i]
		out[e] = f.Plus(out[e], n)
	}
	return residue.Trimmed(out)
}

// courses are those of a plan's sums, side by side.
type courses struct{ a, b, lead course }

func (p *plan) courses(s *spot, ones, move mono) *courses {
	return &courses{a: s.course(p.a, p.x, ones, move), b: s.course(p.b, p.x, ones, move), lead: s.course(p.lead, p.x, ones, move)}
}

func (c *courses) advance(f field) {
	c.a.advance(f)
	c.b.advance(f)
	c.lead.advance(f)
}

// startAt goes back to the beginning, which is where others are.
func (c *courses) startAt(others *courses) {
	copy(c.a.worth, others.a.worth)
	copy(c.b.worth, others.b.worth)
	copy(c.lead.worth, others.lead.worth)
}

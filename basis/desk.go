package basis

import (
	"terrace/api"
	"terrace/mgcd"
)

// desk is where divisors and quotients are written out. What is too long for it is refused, and all that comes then.
type desk struct {
	v int
	spot
	refused bool
}

// common tells the greatest common divisor, or refuses that, too, where it would take long to prove it, and the
// quotients by it seem to be too long anyway.
func (d *desk) common(a, b api.MPoly) api.MPoly {
	if d.refused || d.isHopeless(a, b, d.v) {
		d.refused = true
		return api.MPoly{}
	}
	p, e := mgcd.Gcd(a, b)
	d.refused = e != api.OK
	return p
}

// over tells a divided by b, and whether b divides it; it may be that this is not asked, where it is too long anyway.
func (d *desk) over(a, b api.MPoly) (api.MPoly, bool) {
	if d.refused || d.isTooLong(a, b, d.v) {
		d.refused = true
		return api.MPoly{}, true
	}
	p, e := mgcd.Exact(a, b)
	d.refused = e == api.ErrMPolyForm
	return p, e != api.ErrMPolyRest
}

package rat

import (
	"strings"

	"terrace/api"
	"terrace/big"
)

// read reads a rational's text, and tells whether it is one.
func read(s string) (r api.Rat, ok bool) {
	first, second, two := strings.Cut(s, "/")
	n, e := big.Parse(first)
	if e != api.OK {
		return r, false
	}
	if !two {
		return api.Rat{Num: n, Den: api.Nat{1}}, true
	}
	d, e := big.Parse(second)
	// A denominator stands in the text only where it is not 1, and only in lowest terms.
	if e != api.OK || big.Sign(d) <= 0 || isOne(d.Mag) || !apart(n.Mag, d.Mag) {
		return r, false
	}
	return api.Rat{Num: n, Den: d.Mag}, true
}

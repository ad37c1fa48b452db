package mgcd

import (
	"terrace/api"
	"terrace/big"
)

// ratio is a polynomial: num over den, which divides it. It may have far more terms than both.
type ratio struct{ num, den sum }

func whole(s sum) ratio {
	return ratio{s, constant(big.From(1))}
}

// under tells s over r, which divides it and is not 0.
func (r ratio) under(s sum) ratio {
	return ratio{product(s, r.den), r.num}
}

// shortened tells r, written out if it has at most so many terms.
func (r ratio) shortened(limit int) ratio {
	if q, how := quotient(r.num, r.den, limit); how == even {
		return whole(q)
	}
	return r
}

// isNumber tells whether no variable stands in r, which is not 0 and as short as may be.
func (r ratio) isNumber() bool {
	return len(r.num) > 0 && isNumber(r.num)
}

// tell makes new memory of r, its lead positive, unless it has too many terms.
func (r ratio) tell(vars int) (api.MPoly, api.Errno) {
	q, how := quotient(r.num, r.den, api.MaxTerms)
	if how != even {
		return api.MPoly{}, api.ErrMPolyForm
	}
	return told(vars, positive(q))
}

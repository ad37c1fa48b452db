package mgcd

import (
	"terrace/api"
	"terrace/big"
)

// nest is a polynomial written out, exponents and all: a number, or the coefficients of a variable, the lowest first,
// the last one not 0, each of which is a nest of one variable less. Only 0 is nothing at all, whatever it stands for.
//
// By nests divisors are found plainly: it may take very long, but no luck is needed.
type nest struct {
	number api.Int
	list   []nest
}

// nested writes s out, which has no variable from n on.
func nested(s sum, n int) nest {
	switch {
	case len(s) == 0:
		return nest{}
	case n == 0:
		return nest{number: s[0].coef}
	}
	parts := make([]sum, s.degrees()[n-1]+1)
	for _, t := range s {
		e := t.at.exp(n - 1)
		parts[e] = append(parts[e], t)
	}
	a := nest{list: make([]nest, len(parts))}
	for e, p := range parts {
		a.list[e] = nested(p, n-1)
	}
	return a
}

// sum tells a's terms, each with more at it, n being the number of a's variables.
func (a nest) sum(n int, more mono) sum {
	switch {
	case a.isZero():
		return nil
	case n == 0:
		return sum{{at: more, coef: a.number}}
	}
	var out sum
	for e := len(a.list) - 1; e >= 0; e-- {
		out = append(out, a.list[e].sum(n-1, more.times(power(n-1, e)))...)
	}
	return out
}

func (a nest) isZero() bool {
	return len(a.list) == 0 && isZero(a.number)
}

func (a nest) lead() nest {
	return a.list[len(a.list)-1]
}

// one tells 1 with as many variables as a, which is not 0.
func (a nest) one() nest {
	if len(a.list) == 0 {
		return nest{number: big.From(1)}
	}
	return nest{list: []nest{a.lead().one()}}
}

// each tells what change makes of all coefficients.
func (a nest) each(change func(nest) nest) nest {
	out := nest{list: make([]nest, len(a.list))}
	for i, c := range a.list {
		out.list[i] = change(c)
	}
	return out
}

func (a nest) minus(b nest) nest {
	if len(a.list) == 0 && len(b.list) == 0 {
		return nest{number: minus(a.number, b.number)}
	}
	out := make([]nest, max(len(a.list), len(b.list)))
	copy(out, a.list)
	for i, c := range b.list {
		out[i] = out[i].minus(c)
	}
	n := len(out)
	for n > 0 && out[n-1].isZero() {
		n--
	}
	return nest{list: out[:n:n]}
}

func (a nest) times(b nest) nest {
	switch {
	case a.isZero() || b.isZero():
		return nest{}
	case len(a.list) == 0:
		return nest{number: times(a.number, b.number)}
	}
	var out nest
	for i, c := range a.list {
		opposite := nest{}.minus(c)
		out = out.minus(b.each(opposite.times).up(i))
	}
	return out
}

// up tells a times the i-th power of its variable.
func (a nest) up(i int) nest {
	return nest{list: append(make([]nest, i), a.list...)}
}

// over tells a divided by b, which divides it.
func (a nest) over(b nest) nest {
	switch {
	case a.isZero():
		return a
	case len(a.list) == 0:
		q, _, _ := big.Divide(a.number, b.number)
		return nest{number: q}
	}
	quo := make([]nest, len(a.list)-len(b.list)+1)
	for !a.isZero() {
		i := len(a.list) - len(b.list)
		quo[i] = a.lead().over(b.lead())
		a = a.minus(b.each(quo[i].times).up(i))
	}
	return nest{list: quo}
}

// pseudoRest tells the pseudo-remainder of a by b, but for a power of b's lead.
func (a nest) pseudoRest(b nest) nest {
	for len(a.list) >= len(b.list) {
		top := b.each(a.lead().times).up(len(a.list) - len(b.list))
		a = a.each(b.lead().times).minus(top)
	}
	return a
}

// content tells the greatest common divisor of a's coefficients, which are one variable less: so divisors of
// coefficients are found by divisor itself.
func (a nest) content() nest {
	var c nest
	for _, b := range a.list {
		c = c.divisor(b)
	}
	return c
}

// divisor tells the greatest common divisor of a and b, but for its sign.
func (a nest) divisor(b nest) nest {
	switch {
	case a.isZero():
		return b
	case b.isZero():
		return a
	case len(a.list) == 0:
		c, _ := big.Gcd(a.number, b.number)
		return nest{number: c}
	}
	inA, inB := a.content(), b.content()
	return a.part(inA).primitiveDivisor(b.part(inB)).each(inA.divisor(inB).times)
}

// part tells a divided by its content.
func (a nest) part(content nest) nest {
	return a.each(func(c nest) nest { return c.over(content) })
}

// primitiveDivisor is for contents of 1. Where a pseudo-remainder is a constant, there is no divisor.
func (a nest) primitiveDivisor(b nest) (g nest) {
	defer func() {
		switch r := recover(); r.(type) {
		case nil:
		case coprime:
			g = a.one()
		default:
			panic(r)
		}
	}()
	return a.lastRest(b)
}

// lastRest tells the last pseudo-remainder that is not 0.
func (a nest) lastRest(b nest) nest {
	for {
		r := a.pseudoRest(b)
		switch len(r.list) {
		case 0:
			return b
		case 1:
			panic(coprime{})
		}
		a, b = b, r.part(r.content())
	}
}

// plainly tells the greatest common divisor of all sums, its lead positive; 0, if all are 0.
func plainly(list []sum) sum {
	var g nest
	for _, s := range list {
		g = g.divisor(nested(s, api.MaxVars))
	}
	return positive(g.sum(api.MaxVars, mono{}))
}

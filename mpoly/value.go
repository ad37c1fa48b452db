package mpoly

import (
	"terrace/api"
	"terrace/big"
	"terrace/rat"
)

// ladder is Horner's rule for one variable: it takes coefficients from the highest exponent down, and sums them up
// over the powers of the number's denominator, so that all stay whole numbers.
type ladder struct {
	num, den   api.Int
	exp        int // how far down it is
	sum, scale api.Int
}

// start stands at the top of a polynomial of that degree.
func start(a api.Rat, degree int) ladder {
	return ladder{num: a.Num, den: api.Int{Mag: a.Den}, exp: degree, scale: big.From(1)}
}

// take goes down to an exponent, and takes its coefficient in.
func (l *ladder) take(exp int, c api.Int) {
	l.descend(exp)
	l.sum = plus(l.sum, times(c, l.scale))
}

func (l *ladder) descend(exp int) {
	if steps := l.exp - exp; steps > 0 {
		l.sum = times(l.sum, power(l.num, steps))
		l.scale = times(l.scale, power(l.den, steps))
		l.exp = exp
	}
}

// end tells the sum of all that was taken, each coefficient times num to its exponent and den to what the degree is
// more.
func (l *ladder) end() api.Int {
	l.descend(0)
	return l.sum
}

// power is not big's, which has a limit below MaxDeg.
func power(a api.Int, n int) api.Int {
	if n == 1 {
		return a
	}
	half := power(a, n/2)
	square := times(half, half)
	if n%2 == 1 {
		return times(square, a)
	}
	return square
}

// point is where a polynomial's value is sought, with its degree in each variable.
type point struct {
	at      []api.Rat
	degrees []int
}

func value(p api.MPoly, a []api.Rat) api.Rat {
	if isZero(p) {
		return rat.From(api.Int{})
	}
	x := point{at: a, degrees: make([]int, p.Vars)}
	den := big.From(1)
	for v := range p.Vars {
		x.degrees[v] = degree(p, v)
		if x.degrees[v] > 0 {
			den = times(den, power(api.Int{Mag: a[v].Den}, x.degrees[v]))
		}
	}
	r, _ := rat.Make(x.whole(p.Terms, p.Vars), den.Mag)
	return r
}

// whole tells the value of terms that differ in the first n variables alone, those others being left out, times each
// one's denominator to the degree. Terms with one exponent of the last of the n stand together.
func (x *point) whole(terms []api.Term, n int) api.Int {
	if n == 0 {
		return terms[0].Coef
	}
	v := n - 1
	l := start(x.at[v], x.degrees[v])
	for len(terms) > 0 {
		exp, same := terms[0].Exps[v], 1
		for same < len(terms) && terms[same].Exps[v] == exp {
			same++
		}
		l.take(exp, x.whole(terms[:same], v))
		terms = terms[same:]
	}
	return l.end()
}

// put takes terms that are alike but for v on one ladder: they come with v's exponents descending.
func put(p api.MPoly, v int, a api.Rat) []entry {
	d := degree(p, v)
	place := make(map[exponents]int) // where in list and ladders
	var list []entry
	var ladders []ladder
	for _, x := range entries(p) {
		exp := int(x.at[v])
		x.at[v] = 0
		i, seen := place[x.at]
		if !seen {
			i = len(list)
			place[x.at] = i
			list = append(list, x)
			ladders = append(ladders, start(a, d))
		}
		ladders[i].take(exp, x.coef)
	}
	for i := range list {
		list[i].coef = ladders[i].end()
	}
	return inOrder(list)
}

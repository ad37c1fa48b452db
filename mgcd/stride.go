package mgcd

import "terrace/api"

// strides tells the greatest number for each variable that divides all its exponents in a and b: x^6 - 1 and x^4 - 1
// are as good as x^3 - 1 and x^2 - 1. It is 1, if the variable stands in neither.
func strides(a, b sum) degrees {
	var d degrees
	for _, s := range []sum{a, b} {
		for _, t := range s {
			for v := range d {
				d[v] = euclid(d[v], t.at.exp(v))
			}
		}
	}
	for v := range d {
		d[v] = max(d[v], 1)
	}
	return d
}

// euclid tells the greatest common divisor.
func euclid(a, b int) int {
	for b != 0 {
		a, b = b, a%b
	}
	return a
}

// shrunk tells s with each exponent divided by its stride.
func (s sum) shrunk(d degrees) sum {
	return s.moved(func(v, e int) int { return e / d[v] })
}

// stretched tells s with each exponent times its stride.
func (s sum) stretched(d degrees) sum {
	return s.moved(func(v, e int) int { return e * d[v] })
}

// moved tells s with exponents that are changed so that the order stays.
func (s sum) moved(change func(v, e int) int) sum {
	out := make(sum, len(s))
	for i, t := range s {
		out[i].coef = t.coef
		for v := range api.MaxVars {
			out[i].at = out[i].at.times(power(v, change(v, t.at.exp(v))))
		}
	}
	return out
}

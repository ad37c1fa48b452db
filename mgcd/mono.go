package mgcd

import "cmp"

// mono is a product of powers of variables: 16 bits for each exponent, the last variable's uppermost. So a product of
// two is a sum of words, and the order is that of the words. Exponents stay below 2^15: the uppermost bits are free.
//
// A set of variables is a mono too, with all bits set where a variable is in it.
type mono struct{ high, low uint64 }

const (
	width   = 16 // bits of an exponent
	inWord  = 4  // exponents in a word
	full    = 1<<width - 1
	highest = 1 << 14                       // exponent of a sum, so that those of two together leave a bit
	spare   = 1<<15 | 1<<31 | 1<<47 | 1<<63 // the uppermost bits
)

// power tells v to the n.
func power(v, n int) mono {
	if v < inWord {
		return mono{low: uint64(n) << (width * v)}
	}
	return mono{high: uint64(n) << (width * (v - inWord))}
}

// set tells the variables as a set.
func set(vars ...int) mono {
	var all mono
	for _, v := range vars {
		all = all.times(power(v, full))
	}
	return all
}

func (m mono) exp(v int) int {
	if v < inWord {
		return int(m.low >> (width * v) & full)
	}
	return int(m.high >> (width * (v - inWord)) & full)
}

func (m mono) times(n mono) mono {
	return mono{m.high + n.high, m.low + n.low}
}

// over tells m divided by n, which divides it.
func (m mono) over(n mono) mono {
	return mono{m.high - n.high, m.low - n.low}
}

// divides tells whether no exponent of m is above n's: then none of the spare bits is borrowed.
func (m mono) divides(n mono) bool {
	return ((n.high|spare)-m.high)&((n.low|spare)-m.low)&spare == spare
}

// only tells m without the variables that are not in a set.
func (m mono) only(vars mono) mono {
	return mono{m.high & vars.high, m.low & vars.low}
}

// without tells m without the variables that are in a set.
func (m mono) without(vars mono) mono {
	return mono{m.high &^ vars.high, m.low &^ vars.low}
}

func (m mono) compare(n mono) int {
	if m.high != n.high {
		return cmp.Compare(m.high, n.high)
	}
	return cmp.Compare(m.low, n.low)
}

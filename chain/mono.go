package chain

import "terrace/api"

// mono is a product of powers of variables: two exponents in a word, the last variable's uppermost. So a product of two
// is a sum of words, and the order is that of the words. A determinant of 2 MaxDeg rows has exponents of at most
// 2 MaxDeg^2 = 2^21: there is room for products of many.
type mono [api.MaxVars / inWord]uint64

const (
	inWord = 2
	width  = 32
)

// power tells v to the n.
func power(v, n int) mono {
	var m mono
	m[v/inWord] = uint64(n) << (width * (v % inWord))
	return m
}

func (m mono) exp(v int) int {
	return int(m[v/inWord] >> (width * (v % inWord)) & (1<<width - 1))
}

func (m mono) times(n mono) mono {
	for i := range m {
		m[i] += n[i]
	}
	return m
}

// over tells m divided by n, which divides it.
func (m mono) over(n mono) mono {
	for i := range m {
		m[i] -= n[i]
	}
	return m
}

// without tells m without v.
func (m mono) without(v int) mono {
	return m.over(power(v, m.exp(v)))
}

// above tells whether m stands ahead of n.
func (m *mono) above(n *mono) bool {
	for i := len(m) - 1; i >= 0; i-- {
		if m[i] != n[i] {
			return m[i] > n[i]
		}
	}
	return false
}

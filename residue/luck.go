package residue

import "math/bits"

// Luck tells primes and numbers that are scattered, and hang on each bit of what was stirred in, by a state that is
// four times as long as what comes in or out at once: so nobody can choose polynomials by the primes and the points
// that they meet. Where what it shows is taken for granted, that is wrong with a chance near nil; elsewhere bad luck
// costs time alone.
type Luck struct {
	stock Primes
	state [4]uint64
}

// Stir takes a number in.
func (l *Luck) Stir(n uint64) {
	l.state[3] ^= n
	l.mix(2)
	l.state[0] ^= n
}

// Settle chooses where primes begin, by what was stirred in.
func (l *Luck) Settle() {
	l.stock = Below(1<<61 + l.Number()>>3)
}

// Number tells the next number.
func (l *Luck) Number() uint64 {
	l.mix(4)
	return l.state[0] ^ l.state[1] ^ l.state[2] ^ l.state[3]
}

// mix goes so many rounds (Aumasson, Bernstein), an odd number being added in each: else noughts would stay noughts.
func (l *Luck) mix(rounds int) {
	a, b, c, d := l.state[0], l.state[1], l.state[2], l.state[3]
	for range rounds {
		a += b + 0x9e3779b97f4a7c15
		b = bits.RotateLeft64(b, 13) ^ a
		a = bits.RotateLeft64(a, 32)
		c += d
		d = bits.RotateLeft64(d, 16) ^ c
		a += d
		d = bits.RotateLeft64(d, 21) ^ a
		c += b
		b = bits.RotateLeft64(b, 17) ^ c
		c = bits.RotateLeft64(c, 32)
	}
	l.state = [4]uint64{a, b, c, d}
}

// Field tells the next prime's.
func (l *Luck) Field() Field {
	return l.stock.Next()
}

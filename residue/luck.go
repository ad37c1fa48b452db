package residue

// Luck tells primes and numbers that are scattered, and hang on each bit of what was stirred in: so nobody can choose
// polynomials by the primes and the points that they meet. What it shows is never taken for granted: bad luck costs
// time alone.
type Luck struct {
	stock Primes
	state uint64
}

// Stir takes a number in.
func (l *Luck) Stir(n uint64) {
	l.state ^= n
	l.state = l.Number()
}

// Settle chooses where primes begin, by what was stirred in.
func (l *Luck) Settle() {
	l.stock = Below(1<<61 + l.Number()>>3)
}

// Number mixes the bits of one that grows by even steps (Steele, Lea, Flood).
func (l *Luck) Number() uint64 {
	l.state += 0x9e3779b97f4a7c15
	n := l.state
	n = (n ^ n>>30) * 0xbf58476d1ce4e5b9
	n = (n ^ n>>27) * 0x94d049bb133111eb
	return n ^ n>>31
}

// Field tells the next prime's.
func (l *Luck) Field() Field {
	return l.stock.Next()
}

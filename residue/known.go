package residue

import (
	"terrace/api"
	"terrace/big"
)

// Known is what is known of whole numbers modulo a product of primes: Numbers are those nearest to 0.
type Known struct {
	Numbers []api.Int
	modulus api.Int
}

// Nothing tells what is known of n numbers at the beginning.
func Nothing(n int) Known {
	return Known{Numbers: make([]api.Int, n), modulus: big.From(1)}
}

// Take adds what is known modulo one prime more, and tells whether that changed a number.
func (k *Known) Take(f Field, residues []uint64) bool {
	changed := false
	inverse := f.Inverse(f.Of(k.modulus))
	for i, c := range k.Numbers {
		step := f.Times(f.Minus(residues[i], f.Of(c)), inverse)
		if step != 0 {
			more, _ := big.Mul(k.modulus, f.Nearest(step))
			k.Numbers[i], _ = big.Add(c, more)
			changed = true
		}
	}
	k.modulus, _ = big.Mul(k.modulus, f.Prime())
	return changed
}

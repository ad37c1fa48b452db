package chain

import (
	"math/bits"

	"terrace/api"
	"terrace/big"
)

// account adds up products of numbers: those of single limbs, which most are, in three limbs of its own, negative ones
// in two's complement, so that no memory is made for each.
type account struct {
	low, mid, high uint64
	long           api.Int // what the others are together
}

func (s *account) add(a, b api.Int, minus bool) {
	minus = minus != (a.Neg != b.Neg)
	if len(a.Mag) > 1 || len(b.Mag) > 1 {
		p, _ := big.Mul(api.Int{Neg: minus, Mag: a.Mag}, api.Int{Mag: b.Mag})
		s.long, _ = big.Add(s.long, p)
		return
	}
	high, low := bits.Mul64(a.Mag[0], b.Mag[0])
	var carry uint64
	if minus {
		s.low, carry = bits.Sub64(s.low, low, 0)
		s.mid, carry = bits.Sub64(s.mid, high, carry)
		s.high -= carry
		return
	}
	s.low, carry = bits.Add64(s.low, low, 0)
	s.mid, carry = bits.Add64(s.mid, high, carry)
	s.high += carry
}

// total tells what was added, and begins anew.
func (s *account) total() api.Int {
	a := s.short()
	if !isZero(s.long) {
		a, _ = big.Add(s.long, a)
	}
	*s = account{}
	return a
}

func (s *account) short() api.Int {
	limbs, minus := [3]uint64{s.low, s.mid, s.high}, s.high>>63 == 1
	if minus {
		var carry uint64
		for i, limb := range limbs {
			limbs[i], carry = bits.Sub64(0, limb, carry)
		}
	}
	n := len(limbs)
	for n > 0 && limbs[n-1] == 0 {
		n--
	}
	if n == 0 {
		return api.Int{}
	}
	return api.Int{Neg: minus, Mag: append(api.Nat(nil), limbs[:n]...)}
}

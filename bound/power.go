package bound

import (
	"terrace/api"
	"terrace/big"
)

// power tells the least k from 0 with 2^k |lead| not below |lead| + the greatest other |a|, of p, which is not 0.
func power(p api.Poly) int {
	last := len(p) - 1
	lead := big.Abs(p[last])
	sum := plus(lead, greatest(p[:last]))
	// By as many bits as sum is longer, 2^k |lead| is as long as sum: one bit less is too few, one more is enough.
	k := big.Len(sum) - big.Len(lead)
	if reaches(lead, k, sum) {
		return k
	}
	return k + 1
}

// reaches tells whether 2^k a is not below b. b is brought down instead of a up, since a shift up has a limit; of b's
// opposite the quotient is rounded away from 0, so that nothing of b is lost.
func reaches(a api.Int, k int, b api.Int) bool {
	down, _ := big.Right(big.Neg(b), k)
	return big.Cmp(big.Neg(a), down) <= 0
}

// greatest tells the greatest of the numbers without their signs, 0 if there is none.
func greatest(numbers []api.Int) api.Int {
	best := api.Int{}
	for _, a := range numbers {
		if size := big.Abs(a); big.Cmp(size, best) > 0 {
			best = size
		}
	}
	return best
}

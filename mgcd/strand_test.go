package mgcd

import (
	"math"
	"math/rand/v2"
	"slices"
	"testing"

	"terrace/big"
)

// along makes a sum that has numbers along a line: the lowest first, in steps of u, so placed that no power of a
// variable divides it.
func along(u vector, numbers ...int64) sum {
	var start vector
	for v := range u {
		start[v] = max(0, -u[v]*(len(numbers)-1))
	}
	var s sum
	for i, c := range numbers {
		s = append(s, term{at: start.moved(i, u).mono(), coef: big.From(c)})
	}
	return gathered(s)
}

var slopes = []vector{{1}, {0, 1}, {0, 0, 1}, {1, 1, 1}, {2, 1, 1}, {-1, 1}, {-2, 0, 3}, {3, -5, 2}, {0, -1, 1, 1}, {-1, -1, -1, 4}}

// Strands are found in each direction, with all their factors; what is left has none, and is the other factor.
func TestStrands(t *testing.T) {
	rest := gathered(append(short([]int64{1, 1}, []int64{1}), term{at: power(2, 1), coef: big.From(3)}, term{at: power(3, 2), coef: big.From(5)}))
	for i, u := range slopes {
		strand, other := along(u, -1, 2, 0, 1), along(slopes[(i+1)%len(slopes)], 3, 1)
		b := product(product(strand, other), rest)
		if got := b.strand(u); got.compare(short([]int64{-1, 2, 0, 1})) != 0 {
			t.Errorf("%v: %v", u, got)
		}
		if got := b.without(short([]int64{-1, 2, 0, 1}), u); got.compare(product(other, rest)) != 0 {
			t.Errorf("%v: left is %v", u, got)
		}
		if !slices.Contains(b.directions(), u) {
			t.Errorf("%v is none of %v", u, b.directions())
		}
		if got, ok := withoutStrands(b, product(b, b)); !ok || got.compare(rest) != 0 {
			t.Errorf("%v: %t, left is %v", u, ok, got)
		}
		if got, ok := withoutStrands(b, product(strand, rest)); ok {
			t.Errorf("%v: left is %v", u, got)
		}
		if got := rest.strand(u); !isUnit(got) {
			t.Errorf("%v: a strand of none is %v", u, got)
		}
	}
}

// A strand without which a sum is longer is left in it.
func TestStrandLeftIn(t *testing.T) {
	b := gathered(append(slices.Clone(product(less1(0, 100), less1(1, 1))), product(less1(0, 63), sum{{at: power(2, 1), coef: big.From(1)}})...))
	if got, ok := withoutStrands(b, product(b, b)); !ok || got.compare(b) != 0 {
		t.Errorf("%t, %d terms", ok, len(got))
	}
	if _, ok := withoutStrands(b, sum{{at: power(2, 1), coef: big.From(1)}}); ok {
		t.Error("a strand that does not divide is not seen")
	}
}

// endsEven tells what a division to the end tells, of sums with and without strands, numbers and terms.
func TestEndsEven(t *testing.T) {
	r := rand.New(rand.NewPCG(8, 4))
	count := [2]int{}
	for range 1500 {
		piece := func() sum {
			switch r.IntN(4) {
			case 0:
				return randomSum(r, 3, 1+r.IntN(3), 2, 3)
			case 1:
				return sum{{at: power(r.IntN(3), r.IntN(3)), coef: big.From(1 + r.Int64N(3))}}
			}
			return along(slopes[r.IntN(8)], 1-2*r.Int64N(2), r.Int64N(3)-1, 1)
		}
		p, q, s := piece(), piece(), piece()
		b, a := product(p, q), product(product(p, s), piece())
		if len(b) == 0 || len(a) == 0 {
			continue
		}
		_, how := quotient(a, b, math.MaxInt)
		if got := endsEven(a, b); got != (how == even) {
			t.Fatalf("%v over %v: %t", a, b, got)
		}
		count[how]++
	}
	if count[even] < 100 || count[none] < 100 {
		t.Errorf("%v", count)
	}
}

package mgcd

import (
	"math"
	"math/rand/v2"
	"slices"
	"testing"

	"terrace/big"
)

// along makes a sum that has numbers along a line: the lowest first, in steps of u, so placed that no power of a
// variable divides it.
func along(u vector, numbers ...int64) sum {
	var start vector
	for v := range u {
		start[v] = max(0, -u[v]*(len(numbers)-1))
	}
	var s sum
	for i, c := range numbers {
		s = append(s, term{at: start.moved(i, u).mono(), coef: big.From(c)})
	}
	return gathered(s)
}

var slopes = []vector{{1}, {0, 1}, {0, 0, 1}, {1, 1, 1}, {2, 1, 1}, {-1, 1}, {-2, 0, 3}, {3, -5, 2}, {0, -1, 1, 1}, {-1, -1, -1, 4}}

// Strands are found in each direction, with all their factors; what is left has none, and is the other factor.
func TestStrands(t *testing.T) {
	rest := gathered(append(short([]int64{1, 1}, []int64{1}), term{at: power(2, 1), coef: big.From(3)}, term{at: power(3, 2), coef: big.From(5)}))
	for i, u := range slopes {
		strand, other := along(u, -1, 2, 0, 1), along(slopes[(i+1)%len(slopes)], 3, 1)
		b := product(product(strand, other), rest)
		if got := b.strand(u); got.compare(short([]int64{-1, 2, 0, 1})) != 0 {
			t.Errorf("%v: %v", u, got)
		}
		if got := b.without(short([]int64{-1, 2, 0, 1}), u); got.compare(product(other, rest)) != 0 {
			t.Errorf("%v: left is %v", u, got)
		}
		if !slices.Contains(b.directions(), u) {
			t.Errorf("%v is none of %v", u, b.directions())
		}
		if got, ok := withoutStrands(b, product(b, b)); !ok || got.compare(rest) != 0 {
			t.Errorf("%v: %t, left is %v", u, ok, got)
		}
		if got, ok := withoutStrands(b, product(strand, rest)); ok {
			t.Errorf("%v: left is %v", u, got)
		}
		if got := rest.strand(u); !isUnit(got) {
			t.Errorf("%v: a strand of none is %v", u, got)
		}
	}
}

// A strand without which a sum is longer is left in it.
func TestStrandLeftIn(t *testing.T) {
	b := gathered(append(slices.Clone(product(less1(0, 100), less1(1, 1))), product(less1(0, 63), sum{{at: power(2, 1), coef: big.From(1)}})...))
	if got, ok := withoutStrands(b, product(b, b)); !ok || got.compare(b) != 0 {
		t.Errorf("%t, %d terms", ok, len(got))
	}
	if _, ok := withoutStrands(b, sum{{at: power(2, 1), coef: big.From(1)}}); ok {
		t.Error("a strand that does not divide is not seen")
	}
}

// Laid along a direction, and read by its lines again, a sum is the same; only its lift is lost.
func TestAlong(t *testing.T) {
	steps := short([]int64{-1, 2, 0, 1})
	for _, u := range slopes {
		s := steps.along(u)
		if s.compare(along(u, -1, 2, 0, 1)) != 0 {
			t.Errorf("%v: %v", u, s)
		}
		if l := s.lines(u); len(l) != 1 || l[0].steps.over(single(l[0].steps)).compare(steps) != 0 {
			t.Errorf("%v: %v", u, l)
		}
	}
}

// A divisor that is found by way of strands is the one that is found plainly.
func TestUnstranded(t *testing.T) {
	r := rand.New(rand.NewPCG(8, 5))
	count := 0
	for range 400 {
		piece := func() sum {
			if r.IntN(3) == 0 {
				return randomSum(r, 3, 1+r.IntN(2), 1, 2)
			}
			return along(slopes[r.IntN(5)], -1, r.Int64N(2), 1)
		}
		list := []sum{product(piece(), piece()), product(piece(), piece())}
		for i, s := range list {
			if len(s) > 0 {
				list[i] = s.over(single(s))
			}
		}
		if len(list[0]) < 2 || len(list[1]) < 2 {
			continue
		}
		g, ok := hunt{shortest}.unstranded(list[0], list[1])
		if !ok {
			continue
		}
		q, _ := quotient(g.num, g.den, math.MaxInt)
		if want := plainly(list); positive(q).compare(want) != 0 {
			t.Fatalf("%v: %v, want %v", list, g, want)
		}
		count++
	}
	if count < 50 {
		t.Errorf("%d", count)
	}
	if g := shortRatio(less1(0, 1023), product(less1(0, 31), less1(0, 33))); len(g.num) != 4 || len(g.den) != 2 {
		t.Errorf("%v", g)
	}
}

// Factors are parted by a variable that stands in some of them.
func TestParted(t *testing.T) {
	a, b := short([]int64{1, 1, 1}, []int64{2}), gathered(append(short([]int64{2, 1}), term{at: power(2, 1), coef: big.From(1)}))
	if p, q, ok := parted(product(a, b)); !ok || product(p, q).compare(product(a, b)) != 0 || len(p) == 1 || len(q) == 1 {
		t.Errorf("%t, %v, %v", ok, p, q)
	}
	if p, q, ok := parted(b); ok {
		t.Errorf("%v, %v", p, q)
	}
}

// endsEven tells what a division to the end tells, of sums with and without strands, numbers and terms.
func TestEndsEven(t *testing.T) {
	r := rand.New(rand.NewPCG(8, 4))
	count := [2]int{}
	for range 1500 {
		piece := func() sum {
			switch r.IntN(4) {
			case 0:
				return randomSum(r, 3, 1+r.IntN(3), 2, 3)
			case 1:
				return sum{{at: power(r.IntN(3), r.IntN(3)), coef: big.From(1 + r.Int64N(3))}}
			}
			return along(slopes[r.IntN(8)], 1-2*r.Int64N(2), r.Int64N(3)-1, 1)
		}
		p, q, s := piece(), piece(), piece()
		b, a := product(p, q), product(product(p, s), piece())
		if len(b) == 0 || len(a) == 0 {
			continue
		}
		_, how := quotient(a, b, math.MaxInt)
		if got := endsEven(a, b); got != (how == even) {
			t.Fatalf("%v over %v: %t", a, b, got)
		}
		count[how]++
	}
	if count[even] < 100 || count[none] < 100 {
		t.Errorf("%v", count)
	}
}

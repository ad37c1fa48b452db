package residue

import (
	"math/rand/v2"
	"testing"

	"terrace/api"
)

// Of a sum of powers of nodes the law is as long as there are nodes, foretells all that comes, and has them as roots.
func TestLaw(t *testing.T) {
	r := rand.New(rand.NewPCG(5, 6))
	f := Modulo(top - 57)
	for n := range 20 {
		var nodes, numbers []uint64
		for range n {
			nodes, numbers = append(nodes, f.Of(api.Int{Mag: api.Nat{r.Uint64() | 1}})), append(numbers, f.Of(api.Int{Mag: api.Nat{r.Uint64() | 1}}))
		}
		var w Law
		for i := range 3*n + 2 {
			sum := uint64(0)
			for k, c := range numbers {
				sum = f.Plus(sum, c)
				numbers[k] = f.Times(c, nodes[k])
			}
			w.Take(f, sum)
			if w.Long > n || i >= 2*n && (w.Long != n || !w.Settled()) {
				t.Fatalf("%d nodes, %d numbers: %d long", n, i+1, w.Long)
			}
		}
		for _, node := range nodes {
			value := uint64(0) // of the law's polynomial, backwards
			for i := range w.Long + 1 {
				value = f.Times(value, node)
				if i < len(w.Now) {
					value = f.Plus(value, w.Now[i])
				}
			}
			if value != 0 {
				t.Fatalf("%d nodes: one is no root", n)
			}
		}
	}
}

// Luck hangs on all that was stirred in, in its order, and is the same each time.
func TestLuck(t *testing.T) {
	seen := make(map[uint64]int)
	for i, list := range [][]uint64{{}, {0}, {1}, {2}, {1, 2}, {2, 1}, {0, 0}, {1 << 63}} {
		var l, again Luck
		for _, n := range list {
			l.Stir(n)
			again.Stir(n)
		}
		l.Settle()
		again.Settle()
		n, p := l.Number(), l.Field().Prime().Mag[0]
		if n != again.Number() || p != again.Field().Prime().Mag[0] {
			t.Errorf("%d is another one the second time", i)
		}
		if seen[n]++; seen[n] > 1 {
			t.Errorf("%d is like another one", i)
		}
		if seen[p]++; seen[p] > 1 || p < 1<<60 || p >= top || !isPrime(p) {
			t.Errorf("%d: %d", i, p)
		}
	}
}

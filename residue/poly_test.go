package residue

import (
	"math/rand/v2"
	"slices"
	"testing"
)

// Polynomials with given roots have these, and no others, and come apart again.
func TestRoots(t *testing.T) {
	r := rand.New(rand.NewPCG(7, 9))
	for _, p := range []uint64{101, 1<<61 - 1, top - 57} {
		f := Modulo(p)
		for n := range 12 {
			var roots []uint64
			for range n {
				roots = append(roots, r.Uint64N(p))
			}
			a, x := f.WithRoots(roots), r.Uint64N(p)
			want := f.One()
			for _, root := range roots {
				want = f.Times(want, f.Minus(x, root))
			}
			if got := f.Value(a, x); got != want || len(a) != n+1 || a[n] != f.One() {
				t.Fatalf("modulo %d, roots %v: %v", p, roots, a)
			}
			for i, root := range roots {
				if less := f.WithRoots(slices.Delete(slices.Clone(roots), i, i+1)); !slices.Equal(f.WithoutRoot(a, root), less) {
					t.Fatalf("modulo %d, roots %v without %d", p, roots, root)
				}
			}
		}
	}
}

// Dot is the sum of products, of many of the greatest residues too; what the second list has more does not count.
func TestDot(t *testing.T) {
	r := rand.New(rand.NewPCG(7, 10))
	for _, p := range []uint64{3, 101, 1<<61 - 1, top - 57} {
		f := Modulo(p)
		for _, n := range []int{0, 1, 2, 3, 4, 5, 8, 16, 17, 100, 1000} {
			for _, low := range []uint64{0, p - 1} {
				a, b, want := make([]uint64, n), make([]uint64, n+r.IntN(2)), uint64(0)
				for i := range b {
					b[i] = low + r.Uint64N(p-low)
				}
				for i := range a {
					a[i] = low + r.Uint64N(p-low)
					want = f.Plus(want, f.Times(a[i], b[i]))
				}
				if got := f.Dot(a, b); got != want {
					t.Fatalf("modulo %d, of %d: %d, want %d", p, n, got, want)
				}
			}
		}
	}
}

package residue

import (
	"math/rand/v2"
	"slices"
	"testing"
)

func randomPoly(r *rand.Rand, f Field, degree int) []uint64 {
	a := make([]uint64, degree+1)
	for i := range a {
		a[i] = r.Uint64N(f.p)
	}
	a[degree] = f.one
	return a
}

func (f Field) product(a, b []uint64) []uint64 {
	out := make([]uint64, len(a)+len(b)-1)
	for i, m := range a {
		for j, n := range b {
			out[i+j] = f.Plus(out[i+j], f.Times(m, n))
		}
	}
	return out
}

// A quotient times the divisor, and what is left, make what was divided; what is left is of a lower degree.
func TestDivide(t *testing.T) {
	r := rand.New(rand.NewPCG(8, 1))
	for _, p := range []uint64{101, top - 57} {
		f := Modulo(p)
		for range 200 {
			a, b := f.Scaled(randomPoly(r, f, r.IntN(9)), r.Uint64N(p-1)+1), randomPoly(r, f, r.IntN(9))
			quo, rest := f.Divide(slices.Clone(a), b)
			back := make([]uint64, len(a))
			if len(quo) > 0 {
				copy(back, f.product(quo, b))
			}
			for i, n := range rest {
				back[i] = f.Plus(back[i], n)
			}
			if !slices.Equal(back, a) || len(rest) >= len(b) && len(quo) > 0 || !slices.Equal(Trimmed(rest), rest) {
				t.Fatalf("modulo %d: %v by %v is %v, %v", p, a, b, quo, rest)
			}
		}
		if quo, rest := f.Divide(nil, []uint64{f.one}); len(quo)+len(rest) > 0 {
			t.Errorf("0 by 1: %v, %v", quo, rest)
		}
	}
}

// A pseudo-remainder is a multiple of the remainder, and what it is by stays what it is, but for a factor.
func TestPseudoRest(t *testing.T) {
	r := rand.New(rand.NewPCG(8, 6))
	for _, p := range []uint64{101, top - 57} {
		f := Modulo(p)
		for range 400 {
			m := r.IntN(9)
			a, b := f.Scaled(randomPoly(r, f, m), r.Uint64N(p-1)+1), f.Scaled(randomPoly(r, f, max(0, m-r.IntN(3))), r.Uint64N(p-1)+1)
			monic := f.Monic(slices.Clone(b))
			_, want := f.Divide(slices.Clone(a), monic)
			got := f.PseudoRest(slices.Clone(a), b)
			if len(got) != len(want) || !slices.Equal(f.Monic(b), monic) {
				t.Fatalf("modulo %d: %v by %v: %v, want %v", p, a, b, got, want)
			}
			if len(got) > 0 && !slices.Equal(f.Monic(got), f.Monic(want)) {
				t.Fatalf("modulo %d: %v by %v: %v, want a multiple of %v", p, a, b, got, want)
			}
		}
		if got := f.PseudoRest(nil, []uint64{1, 2}); len(got) > 0 {
			t.Errorf("0: %v", got)
		}
	}
}

// What two polynomials have in common is found, and neither is changed.
func TestCommon(t *testing.T) {
	r := rand.New(rand.NewPCG(8, 2))
	f := Modulo(top - 57)
	for range 200 {
		a, b, g := randomPoly(r, f, r.IntN(6)), randomPoly(r, f, r.IntN(6)), randomPoly(r, f, r.IntN(6))
		a, b = f.product(a, g), f.product(b, g)
		before := slices.Concat(a, b)
		if got := f.Common(a, b); !slices.Equal(got, g) || !slices.Equal(slices.Concat(a, b), before) {
			t.Fatalf("%v and %v: %v, want %v", a, b, got, g)
		}
		if got := f.Common(a, a); !slices.Equal(got, a) {
			t.Fatalf("%v with itself: %v", a, got)
		}
		if got := f.product(f.Without(a, g), g); !slices.Equal(got, a) || !slices.Equal(slices.Concat(a, b), before) {
			t.Fatalf("%v without %v", a, g)
		}
	}
}

func TestMonicAndDerivative(t *testing.T) {
	f := Modulo(101)
	of := func(list ...int) []uint64 {
		out := make([]uint64, len(list))
		for i, n := range list {
			for range n {
				out[i] = f.Plus(out[i], f.one)
			}
		}
		return out
	}
	if got := f.Monic(of(6, 4, 2)); !slices.Equal(got, of(3, 2, 1)) {
		t.Errorf("monic: %v", got)
	}
	if got := f.Monic(of(5, 1)); !slices.Equal(got, of(5, 1)) {
		t.Errorf("monic: %v", got)
	}
	if got := f.Derivative(of(7, 5, 0, 4)); !slices.Equal(got, of(5, 0, 12)) {
		t.Errorf("derivative: %v", got)
	}
	if got := slices.Concat(f.Derivative(of(7)), f.Derivative(nil)); len(got) > 0 {
		t.Errorf("derivative of a number: %v", got)
	}
}

func TestThrough(t *testing.T) {
	r := rand.New(rand.NewPCG(8, 3))
	for _, p := range []uint64{101, top - 57} {
		f := Modulo(p)
		for n := range 20 {
			a := randomPoly(r, f, n)
			for _, more := range []int{1, 2, 5} {
				var values []uint64
				for x := uint64(0); len(values) < n+more; x = f.Plus(x, f.one) {
					values = append(values, f.Value(a, x))
				}
				if got := f.Through(values); !slices.Equal(got, a) {
					t.Fatalf("modulo %d: through %v: %v, want %v", p, values, got, a)
				}
			}
		}
		if got := f.Through(nil); len(got) > 0 {
			t.Errorf("through nothing: %v", got)
		}
		if got := f.Through(make([]uint64, 4)); len(got) > 0 {
			t.Errorf("through noughts: %v", got)
		}
	}
}

// All roots are found, if there are as many as the degree; if there are fewer, or some twice, that is told.
func TestAllRoots(t *testing.T) {
	r := rand.New(rand.NewPCG(8, 4))
	f := Modulo(top - 57)
	for _, n := range []int{0, 1, 2, 3, 7, 20, 100} {
		var roots []uint64
		for range n {
			roots = append(roots, r.Uint64N(f.p))
		}
		slices.Sort(roots)
		a := f.WithRoots(roots)
		if got, ok := f.Roots(a); !ok || !slices.Equal(got, roots) {
			t.Fatalf("%d roots: %v, %v, want %v", n, got, ok, roots)
		}
		if n == 0 {
			continue
		}
		if _, ok := f.Roots(f.product(a, []uint64{f.Minus(0, roots[0]), f.one})); ok {
			t.Errorf("%d roots, one twice", n)
		}
		if _, ok := f.Roots(f.product(a, f.irreducible())); ok {
			t.Errorf("%d roots, and x^2 - a", n)
		}
	}
	if _, ok := f.Roots(f.irreducible()); ok {
		t.Error("x^2 - a has roots")
	}
	if got, ok := f.Roots([]uint64{0, 0, f.one}); ok {
		t.Errorf("x^2: %v", got)
	}
}

// irreducible tells x^2 - a that has no roots.
func (f Field) irreducible() []uint64 {
	a := f.one
	for f.Power(a, f.p/2) == f.one {
		a = f.Plus(a, f.one)
	}
	return []uint64{f.Minus(0, a), 0, f.one}
}

// Sums of powers of nodes are taken apart again, unless two nodes are alike.
func TestSolve(t *testing.T) {
	r := rand.New(rand.NewPCG(8, 5))
	f := Modulo(top - 57)
	for n := range 12 {
		nodes, lists, want := make([]uint64, n), make([][]uint64, 2), make([][]uint64, 2)
		for i := range nodes {
			nodes[i] = r.Uint64N(f.p-1) + 1
		}
		for k := range lists {
			want[k], lists[k] = make([]uint64, n), make([]uint64, n+k)
			for j, node := range nodes {
				want[k][j] = r.Uint64N(f.p)
				for s := range lists[k] {
					lists[k][s] = f.Plus(lists[k][s], f.Times(want[k][j], f.Power(node, uint64(s+1))))
				}
			}
		}
		got, ok := f.Solve(nodes, lists)
		if !ok || !slices.Equal(got[0], want[0]) || !slices.Equal(got[1], want[1]) {
			t.Fatalf("%d nodes: %v, %v, want %v", n, got, ok, want)
		}
		if n == 0 {
			continue
		}
		if got, ok := f.Solve(append(nodes, nodes[0]), [][]uint64{make([]uint64, n+1)}); ok || got != nil {
			t.Errorf("%d nodes, one twice: %v", n, got)
		}
	}
}

package bound_test

import (
	mathbig "math/big"
	"math/rand/v2"
	"testing"

	"terrace/api"
	"terrace/big"
	"terrace/bound"
	"terrace/poly"
)

// leastPower tries one k after the other.
func leastPower(p api.Poly) int {
	lead, sum := new(mathbig.Int).Abs(out(p[len(p)-1])), new(mathbig.Int)
	for _, a := range p[:len(p)-1] {
		if size := new(mathbig.Int).Abs(out(a)); size.Cmp(sum) > 0 {
			sum = size
		}
	}
	sum.Add(sum, lead)
	k := 0
	for ; lead.Cmp(sum) < 0; k++ {
		lead.Lsh(lead, 1)
	}
	return k
}

func holdBound(t *testing.T, p api.Poly, want int) {
	t.Helper()
	if k, e := bound.Bound(p); e != api.OK || k != want {
		t.Fatalf("Bound of%s: %d, %d, want %d", text(p), k, e, want)
	}
}

// P6.3: 0 has no bound.
func TestBoundOfZero(t *testing.T) {
	for _, p := range []api.Poly{nil, {}} {
		if k, e := bound.Bound(p); e != api.ErrPolyZero || k != 0 {
			t.Errorf("%d, %d", k, e)
		}
	}
}

// P6.3: constants, lone powers, signs, and the last number ahead of a power of 2, that power, and the next number.
func TestBound(t *testing.T) {
	for _, c := range []struct {
		p    api.Poly
		want int
	}{
		{ints(7), 0}, {ints(-1), 0}, {api.Poly{long(true, 0, 0, 1)}, 0}, {ints(0, 0, -3), 0}, {monomial(2, api.MaxDeg, 0), 0},
		{ints(-1, 1), 1}, {ints(1, -1), 1}, {ints(-1, 0, 0, 1), 1}, {ints(1, 1000), 1}, {ints(-1000, 1000), 1}, {ints(-1001, 1000), 2},
		{ints(2, 1), 2}, {ints(3, 1), 2}, {ints(4, 1), 3}, {ints(7, 1), 3}, {ints(8, 1), 4}, {ints(-3, -1), 2}, {ints(-4, -1), 3},
		{ints(9, 3), 2}, {ints(10, 3), 3}, {ints(-21, 0, 3), 3}, {ints(-22, 0, 3), 4}, {ints(0, 21, 3), 3}, {ints(0, -22, 3), 4},
		{ints(1, -3, 0, 2), 2}, {ints(-100, 0, 7), 4}, {ints(3, 0, -1), 2}, {ints(-2, 0, 1), 2}, {ints(5, -9, 2, 1), 4},
	} {
		holdBound(t, c.p, c.want)
	}
}

// P6.3: at each power's edge: (2^k - 1) times the lead has k, one more k + 1.
func TestBoundAtEdges(t *testing.T) {
	one := mathbig.NewInt(1)
	leads := []*mathbig.Int{one, mathbig.NewInt(2), mathbig.NewInt(3), mathbig.NewInt(-5), mathbig.NewInt(1 << 62), new(mathbig.Int).Lsh(one, 64), new(mathbig.Int).Sub(new(mathbig.Int).Lsh(one, 129), one)}
	for _, lead := range leads {
		for _, k := range []int{1, 2, 3, 7, 62, 63, 64, 65, 66, 127, 128, 129, 1000, api.MaxShift - 1, api.MaxShift, api.MaxShift + 1, 3*api.MaxShift + 17} {
			edge := new(mathbig.Int).Lsh(one, uint(k))
			edge.Sub(edge, one).Mul(edge, new(mathbig.Int).Abs(lead))
			beyond := new(mathbig.Int).Add(edge, one)
			for _, sign := range []int64{1, -1} {
				s := mathbig.NewInt(sign)
				p := api.Poly{big.From(1), in(new(mathbig.Int).Mul(edge, s)), {}, in(lead)}
				q := api.Poly{in(new(mathbig.Int).Mul(beyond, s)), big.From(-1), in(lead)}
				if got, e := bound.Bound(p); e != api.OK || got != k {
					t.Errorf("lead %s, edge %d: %d, %d", lead, k, got, e)
				}
				if got, e := bound.Bound(q); e != api.OK || got != k+1 {
					t.Errorf("lead %s, beyond %d: %d, %d", lead, k, got, e)
				}
			}
		}
	}
}

// P6.3: of random polynomials, by trial.
func TestBoundByTrial(t *testing.T) {
	r := rand.New(rand.NewPCG(6, 7))
	for range 3000 {
		if p := random(r, 6); len(p) > 0 {
			holdBound(t, p, leastPower(p))
		}
	}
}

func times(t *testing.T, p, q api.Poly) api.Poly {
	t.Helper()
	r, e := poly.Mul(p, q)
	if e != api.OK {
		t.Fatalf("degrees %d and %d are too high", poly.Deg(p), poly.Deg(q))
	}
	return r
}

// below tells whether num / den, den above 0, is below 4^k without its sign.
func below(num, den *mathbig.Int, k int) bool {
	top := new(mathbig.Int).Lsh(den, uint(2*k))
	return new(mathbig.Int).Abs(num).Cmp(top) < 0
}

// P6.4: the roots of products of b x - a and of u x^2 + v x + w without real roots are below 2^Bound, and those above 0
// are as many as Changes, or less by an even number.
func TestRootsWithinBound(t *testing.T) {
	r := rand.New(rand.NewPCG(6, 8))
	for range 2000 {
		p, positive := ints(1+r.Int64N(5)), 0
		var squares [][2]int64 // of each root's size: above, below
		for range 1 + r.IntN(6) {
			a, b := r.Int64N(201)-100, 1+r.Int64N(9)
			n := 1 + r.IntN(2)
			for range n {
				p = times(t, p, ints(-a, b))
			}
			if a > 0 {
				positive += n
			}
			squares = append(squares, [2]int64{a * a, b * b})
		}
		if u, v, w := 1+r.Int64N(5), r.Int64N(21)-10, 1+r.Int64N(99); v*v < 4*u*w {
			// The square of a conjugate pair's size is their product.
			p = times(t, p, ints(w, v, u))
			squares = append(squares, [2]int64{w, u})
		}
		k, e := bound.Bound(p)
		if e != api.OK {
			t.Fatalf("%s: %d", text(p), e)
		}
		for _, s := range squares {
			if !below(mathbig.NewInt(s[0]), mathbig.NewInt(s[1]), k) {
				t.Fatalf("%s: a root whose square is %d / %d is not below 2^%d", text(p), s[0], s[1], k)
			}
		}
		if over := bound.Changes(p) - positive; over < 0 || over%2 != 0 {
			t.Fatalf("%s: %d changes, %d roots above 0", text(p), bound.Changes(p), positive)
		}
	}
}

// P6.4: moves take the roots with them: the value of what is moved at a root's new place is 0.
func TestRootsMove(t *testing.T) {
	r := rand.New(rand.NewPCG(6, 9))
	for range 300 {
		a, c := 1+r.Int64N(50), r.Int64N(21)-10
		p := times(t, ints(-a, 1), random(r, 6))
		moved, _ := bound.Shift(p, big.From(c))
		mirror, _ := bound.Mirror(p)
		turn, _ := bound.Turn(p)
		wide, _ := bound.Stretch(p, -3)
		for i, held := range []struct {
			p        api.Poly
			num, den int64
		}{{moved, a - c, 1}, {mirror, -a, 1}, {turn, 1, a}, {wide, 8 * a, 1}} {
			at := api.Rat{Num: big.From(held.num), Den: api.Nat{uint64(held.den)}}
			if v, e := poly.Eval(held.p, at); e != api.OK || len(v.Num.Mag) > 0 {
				t.Fatalf("%d: %s: %d", i, text(p), e)
			}
		}
	}
}

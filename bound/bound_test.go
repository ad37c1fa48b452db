package bound_test

import (
	"math"
	mathbig "math/big"
	"math/rand/v2"
	"slices"
	"testing"

	"terrace/api"
	"terrace/big"
	"terrace/bound"
	"terrace/poly"
)

func ints(l ...int64) api.Poly {
	var p api.Poly
	for _, n := range l {
		p = append(p, big.From(n))
	}
	return p
}

// monomial makes c x^n + a.
func monomial(c int64, n int, a int64) api.Poly {
	p := make(api.Poly, n+1)
	p[0], p[n] = big.From(a), big.From(c)
	return p
}

func text(p api.Poly) string {
	s := ""
	for _, a := range p {
		s += " " + big.Text(a)
	}
	return s
}

// long makes a number of limbs, the lowest first.
func long(neg bool, limbs ...uint64) api.Int { return api.Int{Neg: neg, Mag: limbs} }

// out tells a as a number of the library.
func out(a api.Int) *mathbig.Int {
	n := new(mathbig.Int)
	for _, limb := range slices.Backward(a.Mag) {
		n.Lsh(n, 64).Or(n, new(mathbig.Int).SetUint64(limb))
	}
	if a.Neg {
		n.Neg(n)
	}
	return n
}

func in(n *mathbig.Int) api.Int {
	a := api.Int{Neg: n.Sign() < 0}
	for m := new(mathbig.Int).Abs(n); m.Sign() > 0; m.Rsh(m, 64) {
		a.Mag = append(a.Mag, new(mathbig.Int).And(m, new(mathbig.Int).SetUint64(math.MaxUint64)).Uint64())
	}
	return a
}

// number tells all sorts: short and long ones, and 0.
func number(r *rand.Rand) api.Int {
	switch r.IntN(6) {
	case 0, 1:
		return api.Int{}
	case 2:
		return long(r.IntN(2) == 0, r.Uint64(), r.Uint64()|1)
	}
	return big.From(r.Int64N(19) - 9)
}

func random(r *rand.Rand, most int) api.Poly {
	p := make(api.Poly, r.IntN(most+2))
	for i := range p {
		p[i] = number(r)
	}
	for len(p) > 0 && big.Sign(p[len(p)-1]) == 0 {
		p = p[:len(p)-1]
	}
	return p
}

// noNumbers lists what is no number.
func noNumbers() []api.Int {
	return []api.Int{{Neg: true}, {Mag: api.Nat{0}}, {Mag: api.Nat{5, 0}}, {Neg: true, Mag: api.Nat{1, 2, 0}}}
}

// none lists what is no polynomial.
func none() []api.Poly {
	l := []api.Poly{{{}}, ints(1, 0), ints(0, 0), ints(-3, 5, 0), monomial(1, api.MaxDeg+1, 0), make(api.Poly, api.MaxDeg+2)}
	for _, c := range noNumbers() {
		l = append(l, api.Poly{c}, api.Poly{c, big.From(1)}, api.Poly{big.From(1), c}, api.Poly{big.From(4), c, big.From(-1)})
	}
	return l
}

// held takes an answer that has to be want.
func held(t *testing.T, what string, p api.Poly, want string) func(api.Poly, api.Errno) {
	t.Helper()
	return func(got api.Poly, e api.Errno) {
		t.Helper()
		if e != api.OK || text(got) != want || poly.Check(got) != api.OK {
			t.Fatalf("%s of%s: %d\n got%s\nwant%s", what, text(p), e, text(got), want)
		}
	}
}

// refused takes an answer that has to be an error, and nothing beside it.
func refused(t *testing.T, what string, want api.Errno) func(api.Poly, api.Errno) {
	t.Helper()
	return func(got api.Poly, e api.Errno) {
		t.Helper()
		if e != want || got != nil {
			t.Errorf("%s: %v, %d, want %d", what, got, e, want)
		}
	}
}

// P6.1, P6.2, P6.3: what is no polynomial is refused ahead of all else, with nothing beside the error.
func TestNoPolynomial(t *testing.T) {
	for _, p := range none() {
		for _, c := range append(noNumbers(), api.Int{}, big.From(3)) {
			refused(t, "Shift", api.ErrPolyForm)(bound.Shift(p, c))
		}
		for _, k := range []int{0, 1, -1, api.MaxExp + 1, -api.MaxExp - 1, math.MaxInt, math.MinInt} {
			refused(t, "Stretch", api.ErrPolyForm)(bound.Stretch(p, k))
		}
		refused(t, "Mirror", api.ErrPolyForm)(bound.Mirror(p))
		refused(t, "Turn", api.ErrPolyForm)(bound.Turn(p))
		if k, e := bound.Bound(p); e != api.ErrPolyForm || k != 0 {
			t.Errorf("Bound: %d, %d", k, e)
		}
		if n := bound.Changes(p); n != 0 {
			t.Errorf("Changes: %d", n)
		}
	}
	if n := bound.Changes(append(ints(-1, 1, -1, 1), api.Int{Neg: true})); n != 0 {
		t.Errorf("Changes: %d", n)
	}
}

// P6.1: what is no number is refused, whatever the polynomial.
func TestNoNumber(t *testing.T) {
	for _, c := range noNumbers() {
		for _, p := range []api.Poly{nil, ints(4), ints(0, 1), ints(1, 2, 3)} {
			refused(t, "Shift", api.ErrPolyForm)(bound.Shift(p, c))
		}
	}
}

// P6.1: powers that may not be are refused, whatever the polynomial; the outermost ones that may be are not.
func TestPowers(t *testing.T) {
	for _, p := range []api.Poly{nil, ints(4), ints(0, 1), ints(1, 2, 3)} {
		for _, k := range []int{api.MaxExp + 1, -api.MaxExp - 1, 2 * api.MaxExp, math.MaxInt, math.MinInt, math.MinInt + 1} {
			refused(t, "Stretch", api.ErrBoundForm)(bound.Stretch(p, k))
		}
		for _, k := range []int{api.MaxExp, -api.MaxExp} {
			if _, e := bound.Stretch(p, k); e != api.OK {
				t.Errorf("Stretch by %d: %d", k, e)
			}
		}
	}
}

// P6.1, P6.2, P6.3: the examples of the chapter.
func TestExamples(t *testing.T) {
	square := ints(0, 0, 1)
	held(t, "Shift", square, " 9 6 1")(bound.Shift(square, big.From(3)))
	held(t, "Turn", ints(0, 2, 1), " 1 2")(bound.Turn(ints(0, 2, 1)))
	held(t, "Stretch", ints(1, 1), " 2 1")(bound.Stretch(ints(1, 1), -1))
	if k, e := bound.Bound(ints(-2, 0, 1)); e != api.OK || k != 2 {
		t.Errorf("Bound: %d, %d", k, e)
	}
	if n := bound.Changes(ints(-1, 0, 0, 1)); n != 1 {
		t.Errorf("Changes: %d", n)
	}
}

// P6.1: 0 stays 0, and a constant stays what it is.
func TestConstants(t *testing.T) {
	for _, p := range []api.Poly{nil, {}, ints(1), ints(-7), {long(true, 0, 0, 9)}} {
		want := text(p)
		for _, c := range []api.Int{{}, big.From(1), big.From(-5), long(false, 1, 2, 3)} {
			held(t, "Shift", p, want)(bound.Shift(p, c))
		}
		for _, k := range []int{0, 1, -1, 13, -13, api.MaxExp, -api.MaxExp} {
			held(t, "Stretch", p, want)(bound.Stretch(p, k))
		}
		held(t, "Mirror", p, want)(bound.Mirror(p))
		held(t, "Turn", p, want)(bound.Turn(p))
	}
}

// shiftedText tells p(x + c) by the binomials.
func shiftedText(p api.Poly, c api.Int) string {
	sums := make([]mathbig.Int, len(p))
	for i, a := range p {
		if len(a.Mag) == 0 {
			continue
		}
		power := mathbig.NewInt(1)
		for j := i; j >= 0; j-- {
			term := new(mathbig.Int).Binomial(int64(i), int64(j))
			term.Mul(term, power).Mul(term, out(a))
			sums[j].Add(&sums[j], term)
			power.Mul(power, out(c))
		}
	}
	s := ""
	for i := range sums {
		s += " " + sums[i].String()
	}
	return s
}

// P6.1: Shift is what the binomials say: by 0, by 1, by numbers below 0, by long ones.
func TestShift(t *testing.T) {
	r := rand.New(rand.NewPCG(6, 1))
	by := []api.Int{{}, big.From(1), big.From(-1), big.From(2), big.From(-3), big.From(1 << 40), big.From(math.MinInt64), long(true, 0, 1), long(false, 3, 1, 4)}
	for range 300 {
		p := random(r, 12)
		for _, c := range append(by, number(r)) {
			held(t, "Shift by "+big.Text(c), p, shiftedText(p, c))(bound.Shift(p, c))
		}
	}
	for _, c := range by {
		p := ints(-1, 5, 10, 10, -5, 1)
		held(t, "Shift by "+big.Text(c), p, shiftedText(p, c))(bound.Shift(p, c))
	}
}

// P6.1: Shift leaves noughts where they come out.
func TestShiftToNought(t *testing.T) {
	held(t, "Shift", ints(1, 2, 1), " 0 0 1")(bound.Shift(ints(1, 2, 1), big.From(-1)))
	held(t, "Shift", ints(9, -6, 1), " 0 0 1")(bound.Shift(ints(9, -6, 1), big.From(3)))
	held(t, "Shift", ints(4, 0, -1), " 0 4 -1")(bound.Shift(ints(4, 0, -1), big.From(-2)))
}

// P6.1: a shift and its opposite undo each other, and of two shifts one is made.
func TestShiftsJoin(t *testing.T) {
	r := rand.New(rand.NewPCG(6, 2))
	for range 200 {
		p, c, d := random(r, 20), number(r), number(r)
		q, _ := bound.Shift(p, c)
		held(t, "Shift back", q, text(p))(bound.Shift(q, big.Neg(c)))
		both, _ := big.Add(c, d)
		once, _ := bound.Shift(p, both)
		held(t, "Shift twice", q, text(once))(bound.Shift(q, d))
	}
}

// P6.1: Mirror changes the signs of odd powers alone.
func TestMirror(t *testing.T) {
	r := rand.New(rand.NewPCG(6, 3))
	held(t, "Mirror", ints(1, 2, 3, 4), " 1 -2 3 -4")(bound.Mirror(ints(1, 2, 3, 4)))
	held(t, "Mirror", ints(0, 0, 0, -1), " 0 0 0 1")(bound.Mirror(ints(0, 0, 0, -1)))
	for range 300 {
		p, want := random(r, 15), ""
		for i, a := range p {
			n := out(a)
			if i%2 == 1 {
				n.Neg(n)
			}
			want += " " + n.String()
		}
		held(t, "Mirror", p, want)(bound.Mirror(p))
	}
}

// P6.1: Turn tells the opposite order, without noughts at its end.
func TestTurn(t *testing.T) {
	r := rand.New(rand.NewPCG(6, 4))
	for _, c := range []struct {
		p    api.Poly
		want string
	}{
		{ints(3, 0, 1), " 1 0 3"}, {ints(0, 1), " 1"}, {ints(0, 0, 0, -5), " -5"}, {ints(0, 0, 2, 0, 3), " 3 0 2"}, {ints(1, 0, 0, 2), " 2 0 0 1"}, {monomial(7, api.MaxDeg, 0), " 7"},
	} {
		held(t, "Turn", c.p, c.want)(bound.Turn(c.p))
	}
	for range 300 {
		p, want, seen := random(r, 15), "", false
		for _, a := range p {
			if seen = seen || len(a.Mag) > 0; seen {
				want = " " + big.Text(a) + want
			}
		}
		held(t, "Turn", p, want)(bound.Turn(p))
	}
}

// P6.1: each power of x gets its power of 2, from the lowest on if k is above 0, from the highest down if below.
func TestStretch(t *testing.T) {
	r := rand.New(rand.NewPCG(6, 5))
	held(t, "Stretch", ints(1, 1, 1), " 1 4 16")(bound.Stretch(ints(1, 1, 1), 2))
	held(t, "Stretch", ints(1, 1, 1), " 16 4 1")(bound.Stretch(ints(1, 1, 1), -2))
	held(t, "Stretch", ints(0, 0, 3), " 0 0 3")(bound.Stretch(ints(0, 0, 3), -9))
	held(t, "Stretch", ints(4, 2), " 8 2")(bound.Stretch(ints(4, 2), -1))
	for range 200 {
		p := random(r, 10)
		for k := -api.MaxExp; k <= api.MaxExp; k += 1 + r.IntN(9) {
			want := ""
			for i, a := range p {
				n := k * i
				if k < 0 {
					n = k*i - k*(len(p)-1)
				}
				want += " " + new(mathbig.Int).Lsh(out(a), uint(n)).String()
			}
			held(t, "Stretch", p, want)(bound.Stretch(p, k))
		}
	}
}

// P6.1: degrees up to MaxDeg, with the longest numbers that come of it.
func TestHighest(t *testing.T) {
	top := monomial(-3, api.MaxDeg, 5)
	for i, c := range []int64{1, -1, 3} {
		q, e := bound.Shift(top, big.From(c))
		if e != api.OK || text(q) != shiftedText(top, big.From(c)) {
			t.Errorf("Shift %d: %d", i, e)
		}
	}
	far := new(mathbig.Int).Lsh(mathbig.NewInt(1), api.MaxExp*api.MaxDeg)
	up, e := bound.Stretch(top, api.MaxExp)
	if want := new(mathbig.Int).Mul(far, mathbig.NewInt(-3)); e != api.OK || out(up[api.MaxDeg]).Cmp(want) != 0 || big.Text(up[0]) != "5" || len(up) != len(top) {
		t.Errorf("Stretch up: %d", e)
	}
	down, e := bound.Stretch(top, -api.MaxExp)
	if want := new(mathbig.Int).Mul(far, mathbig.NewInt(5)); e != api.OK || out(down[0]).Cmp(want) != 0 || big.Text(down[api.MaxDeg]) != "-3" || len(down) != len(top) {
		t.Errorf("Stretch down: %d", e)
	}
	held(t, "Mirror", top, text(top))(bound.Mirror(top))
	if q, e := bound.Turn(top); e != api.OK || len(q) != len(top) || big.Text(q[0]) != "-3" || big.Text(q[api.MaxDeg]) != "5" {
		t.Errorf("Turn: %d", e)
	}
}

// P6.2: Changes leaves noughts out, wherever they stand.
func TestChanges(t *testing.T) {
	for _, c := range []struct {
		p    api.Poly
		want int
	}{
		{nil, 0}, {ints(1), 0}, {ints(-1), 0}, {ints(0, 1), 0}, {ints(1, 1), 0}, {ints(-1, -1), 0}, {ints(-1, 1), 1}, {ints(1, -1), 1},
		{ints(1, 0, -1), 1}, {ints(1, 0, 1), 0}, {ints(0, 0, 1, 0, 0, -1), 1}, {ints(-1, 0, 0, -1, 0, 1), 1}, {ints(1, -2, 1), 2}, {ints(1, -3, 0, 2), 2}, {ints(1, -1, 1, -1, 1, -1), 5},
		{ints(0, 0, 3, 0, -1, -1, 0, 2, 2), 2}, {monomial(-1, api.MaxDeg, 1), 1}, {api.Poly{long(true, 0, 1), {}, long(false, 0, 0, 1)}, 1},
	} {
		if n := bound.Changes(c.p); n != c.want {
			t.Errorf("%s: %d, want %d", text(c.p), n, c.want)
		}
	}
	all := make(api.Poly, api.MaxDeg+1)
	for i := range all {
		all[i] = big.From(int64(1 - i%2*2))
	}
	if n := bound.Changes(all); n != api.MaxDeg {
		t.Errorf("the most: %d", n)
	}
}

// P6.2: of random polynomials, by pairs of neighbours without noughts.
func TestChangesByPairs(t *testing.T) {
	r := rand.New(rand.NewPCG(6, 6))
	for range 500 {
		p, want := random(r, 20), 0
		short := slices.DeleteFunc(slices.Clone(p), func(a api.Int) bool { return len(a.Mag) == 0 })
		for i := 1; i < len(short); i++ {
			if short[i].Neg != short[i-1].Neg {
				want++
			}
		}
		if n := bound.Changes(p); n != want {
			t.Fatalf("%s: %d, want %d", text(p), n, want)
		}
	}
}

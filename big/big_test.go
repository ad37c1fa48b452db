package big_test

import (
	"math"
	ref "math/big"
	"math/rand/v2"
	"reflect"
	"strings"
	"testing"

	"terrace/api"
	"terrace/big"
)

// maker makes numbers whose limbs are often 0, 1, all ones, or a lone highest bit, where carries and guesses go wrong.
type maker struct{ *rand.Rand }

func newMaker() maker { return maker{rand.New(rand.NewPCG(1, 2))} }

func (m maker) limb() uint64 {
	switch m.IntN(6) {
	case 0:
		return 0
	case 1:
		return 1
	case 2:
		return math.MaxUint64
	case 3:
		return 1 << 63
	case 4:
		return math.MaxUint64 - 1
	}
	return m.Uint64()
}

func (m maker) number(limbs int) api.Int {
	mag := make(api.Nat, limbs)
	for i := range mag {
		mag[i] = m.limb()
	}
	for len(mag) > 0 && mag[len(mag)-1] == 0 {
		mag[len(mag)-1] = m.limb()
	}
	return api.Int{Neg: limbs > 0 && m.IntN(2) == 0, Mag: mag}
}

func toRef(a api.Int) *ref.Int {
	words := make([]ref.Word, len(a.Mag))
	for i, w := range a.Mag {
		words[i] = ref.Word(w)
	}
	z := new(ref.Int).SetBits(words)
	if a.Neg {
		z.Neg(z)
	}
	return z
}

func fromRef(a *ref.Int) api.Int {
	z := api.Int{Neg: a.Sign() < 0}
	for _, w := range a.Bits() {
		z.Mag = append(z.Mag, uint64(w))
	}
	return z
}

func parse(t *testing.T, s string) api.Int {
	t.Helper()
	a, e := big.Parse(s)
	if e != api.OK {
		t.Fatalf("Parse(%.40q): %d", s, e)
	}
	return a
}

// same holds an answer against the reference; 0 must be the zero Int.
func same(t *testing.T, what string, got api.Int, want *ref.Int) {
	t.Helper()
	if !reflect.DeepEqual(got, fromRef(want)) {
		t.Fatalf("%s: got %v, want %v", what, got, fromRef(want))
	}
}

func fine(t *testing.T, what string, e api.Errno) {
	t.Helper()
	if e != api.OK {
		t.Fatalf("%s: error %d", what, e)
	}
}

// none are values that are no numbers.
func none() []api.Int {
	return []api.Int{
		{Neg: true},
		{Neg: true, Mag: api.Nat{}},
		{Mag: api.Nat{0}},
		{Neg: true, Mag: api.Nat{0}},
		{Mag: api.Nat{1, 0}},
		{Neg: true, Mag: api.Nat{7, 7, 0}},
	}
}

// P1.1: what is a number, and what is none.
func TestCheck(t *testing.T) {
	for _, a := range none() {
		if e := big.Check(a); e != api.ErrBigForm {
			t.Errorf("Check(%v): %d", a, e)
		}
	}
	for _, a := range []api.Int{{}, {Mag: api.Nat{}}, {Mag: api.Nat{1}}, {Neg: true, Mag: api.Nat{1}}, {Mag: api.Nat{0, 1}}} {
		if e := big.Check(a); e != api.OK {
			t.Errorf("Check(%v): %d", a, e)
		}
	}
}

// P1.1: each call that tells an Errno tells ErrBigForm ahead of its other errors, with zero values beside it.
func TestNoNumberFirst(t *testing.T) {
	good, zero := big.From(-5), api.Int{}
	for _, bad := range none() {
		type answer struct {
			a api.Int
			e api.Errno
		}
		one := func(a api.Int, e api.Errno) answer { return answer{a, e} }
		for i, got := range []answer{
			one(big.Add(bad, good)), one(big.Add(good, bad)), one(big.Sub(bad, good)), one(big.Sub(good, bad)),
			one(big.Mul(bad, zero)), one(big.Mul(zero, bad)), one(big.Gcd(bad, zero)), one(big.Gcd(zero, bad)),
			one(big.Left(bad, -1)), one(big.Left(bad, 3)), one(big.Right(bad, -1)), one(big.Right(bad, 3)),
			one(big.Pow(bad, -1)), one(big.Pow(bad, 0)), one(big.Root(bad, 0)), one(big.Root(bad, 2)),
		} {
			if !reflect.DeepEqual(got, answer{api.Int{}, api.ErrBigForm}) {
				t.Errorf("call %d of %v: %v", i, bad, got)
			}
		}
		for _, pair := range [][2]api.Int{{bad, good}, {bad, zero}, {good, bad}, {bad, bad}} {
			if q, r, e := big.Divide(pair[0], pair[1]); e != api.ErrBigForm || !reflect.DeepEqual([]api.Int{q, r}, []api.Int{{}, {}}) {
				t.Errorf("Divide(%v): %v, %v, %d", pair, q, r, e)
			}
		}
	}
}

// P1.1: each call that tells no Errno answers zero values.
func TestNoNumberZero(t *testing.T) {
	for _, bad := range none() {
		if n, is := big.Small(bad); n != 0 || is {
			t.Errorf("Small(%v): %d, %v", bad, n, is)
		}
		if big.Sign(bad) != 0 || big.Len(bad) != 0 || big.Text(bad) != "" {
			t.Errorf("Sign, Len, Text of %v", bad)
		}
		if big.Cmp(bad, big.From(9)) != 0 || big.Cmp(big.From(9), bad) != 0 {
			t.Errorf("Cmp with %v", bad)
		}
		if !reflect.DeepEqual([]api.Int{big.Neg(bad), big.Abs(bad)}, []api.Int{{}, {}}) {
			t.Errorf("Neg, Abs of %v", bad)
		}
	}
}

// P1.1: small numbers there and back.
func TestFromSmall(t *testing.T) {
	for _, n := range []int64{0, 1, -1, 2, -2, 1 << 32, math.MaxInt64, math.MaxInt64 - 1, math.MinInt64, math.MinInt64 + 1} {
		a := big.From(n)
		same(t, "From", a, ref.NewInt(n))
		if got, is := big.Small(a); !is || got != n {
			t.Errorf("Small(From(%d)): %d, %v", n, got, is)
		}
	}
	for _, s := range []string{"9223372036854775808", "-9223372036854775809", "18446744073709551615", "-18446744073709551615", "18446744073709551616", "-18446744073709551616"} {
		if n, is := big.Small(parse(t, s)); n != 0 || is {
			t.Errorf("Small(%s): %d, %v", s, n, is)
		}
	}
}

// P1.1: signs, order, length.
func TestSignsAndOrder(t *testing.T) {
	m := newMaker()
	for range 3000 {
		a, b := m.number(m.IntN(4)), m.number(m.IntN(4))
		if m.IntN(4) == 0 {
			b = api.Int{Neg: a.Neg, Mag: append(api.Nat(nil), a.Mag...)}
		}
		x, y := toRef(a), toRef(b)
		if big.Sign(a) != x.Sign() || big.Cmp(a, b) != x.Cmp(y) || big.Len(a) != x.BitLen() {
			t.Fatalf("Sign, Cmp or Len of %v, %v", a, b)
		}
		same(t, "Neg", big.Neg(a), new(ref.Int).Neg(x))
		same(t, "Abs", big.Abs(a), new(ref.Int).Abs(x))
	}
	for n, want := range map[int64]int{0: 0, 1: 1, -1: 1, 3: 2, 4: 3, -4: 3, math.MinInt64: 64} {
		if got := big.Len(big.From(n)); got != want {
			t.Errorf("Len(%d): %d", n, got)
		}
	}
}

// sizes are lengths round those at which products change their way.
func sizes() []int {
	return []int{0, 1, 2, 3, 5, 8, 19, 20, 21, 38, 39, 40, 41, 42, 43, 60, 79, 80, 81, 82, 83, 119, 127, 160, 161, 163, 250, 400}
}

// P1.2, P1.3: sums, products, quotients of all sorts of lengths.
func TestReckonedBySizes(t *testing.T) {
	m := newMaker()
	for _, n := range sizes() {
		for _, k := range sizes() {
			reckon(t, m.number(n), m.number(k))
		}
	}
	for range 20000 {
		reckon(t, m.number(m.IntN(7)), m.number(m.IntN(5)))
	}
}

func reckon(t *testing.T, a, b api.Int) {
	t.Helper()
	x, y := toRef(a), toRef(b)
	s, e := big.Add(a, b)
	fine(t, "Add", e)
	same(t, "Add", s, new(ref.Int).Add(x, y))
	s, e = big.Sub(a, b)
	fine(t, "Sub", e)
	same(t, "Sub", s, new(ref.Int).Sub(x, y))
	p, e := big.Mul(a, b)
	fine(t, "Mul", e)
	same(t, "Mul", p, new(ref.Int).Mul(x, y))
	quotients(t, a, b)
	// A product has quotients whose limbs are those of the other one, and rests at both ends.
	near, _ := big.Add(p, b)
	quotients(t, near, b)
	near, _ = big.Sub(near, big.From(1))
	quotients(t, near, b)
}

func quotients(t *testing.T, a, b api.Int) {
	t.Helper()
	q, r, e := big.Divide(a, b)
	if len(b.Mag) == 0 {
		if e != api.ErrBigZero || !reflect.DeepEqual([]api.Int{q, r}, []api.Int{{}, {}}) {
			t.Fatalf("by 0: %v, %v, %d", q, r, e)
		}
		return
	}
	fine(t, "Divide", e)
	x, y := toRef(a), toRef(b)
	wantQ, wantR := new(ref.Int).QuoRem(x, y, new(ref.Int))
	if wantR.Sign() != 0 && wantR.Sign() != y.Sign() {
		wantQ.Sub(wantQ, ref.NewInt(1))
		wantR.Add(wantR, y)
	}
	same(t, "quotient", q, wantQ)
	same(t, "rest", r, wantR)
}

// P1.3: the document's examples, and division by 0.
func TestDivideExamples(t *testing.T) {
	for _, c := range [][4]int64{{-7, 2, -4, 1}, {7, -2, -4, -1}, {-7, -2, 3, -1}, {7, 2, 3, 1}, {-6, 3, -2, 0}, {6, -3, -2, 0}, {0, -3, 0, 0}, {1, -3, -1, -2}, {-1, 3, -1, 2}, {math.MinInt64, 1, math.MinInt64, 0}} {
		q, r, e := big.Divide(big.From(c[0]), big.From(c[1]))
		if e != api.OK || big.Cmp(q, big.From(c[2])) != 0 || big.Cmp(r, big.From(c[3])) != 0 {
			t.Errorf("%v: %s, %s, %d", c, big.Text(q), big.Text(r), e)
		}
	}
	if q, r, e := big.Divide(api.Int{}, api.Int{}); e != api.ErrBigZero || len(q.Mag)+len(r.Mag) != 0 {
		t.Errorf("0 by 0: %v, %v, %d", q, r, e)
	}
}

// P1.3: quotients whose guessed limbs are too great.
func TestDivideGuesses(t *testing.T) {
	const top, ones = 1 << 63, math.MaxUint64
	for _, c := range []struct{ x, y api.Nat }{
		{api.Nat{0, 0, top, top - 1}, api.Nat{1, 0, top}},
		{api.Nat{3, 0, top}, api.Nat{1, 0, 1 << 61}},
		{api.Nat{0, ones - 1, top}, api.Nat{ones, top}},
		{api.Nat{ones, ones, ones - 1}, api.Nat{ones, ones}},
		{api.Nat{0, 0, 0, 1}, api.Nat{ones, ones}},
		{api.Nat{0, 0, ones, ones - 1}, api.Nat{ones, ones, ones}},
	} {
		quotients(t, api.Int{Mag: c.x}, api.Int{Mag: c.y})
		quotients(t, api.Int{Neg: true, Mag: c.x}, api.Int{Mag: c.y})
	}
}

// P1.3: divisors.
func TestGcd(t *testing.T) {
	m := newMaker()
	for range 3000 {
		a, b, c := m.number(m.IntN(12)), m.number(m.IntN(12)), m.number(m.IntN(5))
		a, _ = big.Mul(a, c)
		b, _ = big.Mul(b, c)
		holdGcd(t, a, b)
	}
	holdGcd(t, m.number(300), m.number(299))
	holdGcd(t, m.number(200), m.number(3))
	// Fibonacci's numbers make as many steps as there can be, each with the quotient 1.
	a, b := big.From(1), big.From(1)
	for range 1500 {
		s, _ := big.Add(a, b)
		a, b = b, s
		holdGcd(t, a, b)
	}
	for _, c := range [][3]int64{{0, 0, 0}, {0, -6, 6}, {-6, 0, 6}, {-12, 18, 6}, {-12, 35, 1}} {
		if g, e := big.Gcd(big.From(c[0]), big.From(c[1])); e != api.OK || big.Cmp(g, big.From(c[2])) != 0 {
			t.Errorf("%v: %s, %d", c, big.Text(g), e)
		}
	}
}

func holdGcd(t *testing.T, a, b api.Int) {
	t.Helper()
	g, e := big.Gcd(a, b)
	fine(t, "Gcd", e)
	x, y := toRef(a), toRef(b)
	same(t, "Gcd", g, new(ref.Int).GCD(nil, nil, x.Abs(x), y.Abs(y)))
}

// P1.4: shifts.
func TestShifts(t *testing.T) {
	m := newMaker()
	for range 3000 {
		a, n := m.number(m.IntN(5)), m.IntN(400)
		if m.IntN(3) == 0 {
			n = 64 * m.IntN(6)
		}
		l, e := big.Left(a, n)
		fine(t, "Left", e)
		same(t, "Left", l, new(ref.Int).Lsh(toRef(a), uint(n)))
		r, e := big.Right(a, n)
		fine(t, "Right", e)
		same(t, "Right", r, new(ref.Int).Rsh(toRef(a), uint(n)))
		back, _ := big.Right(l, n)
		same(t, "there and back", back, toRef(a))
	}
	l, e := big.Left(big.From(-3), api.MaxShift)
	fine(t, "Left", e)
	same(t, "Left", l, new(ref.Int).Lsh(ref.NewInt(-3), api.MaxShift))
	for _, c := range []struct{ a, want int64 }{{-1, -1}, {1, 0}, {0, 0}, {math.MinInt64, -1}} {
		for _, n := range []int{64, 1000, 1 << 40, math.MaxInt} {
			r, e := big.Right(big.From(c.a), n)
			fine(t, "Right", e)
			same(t, "Right", r, ref.NewInt(c.want))
		}
	}
}

// P1.4, P1.5: shifts, powers and roots that may not be.
func TestShiftRefused(t *testing.T) {
	type answer struct {
		a api.Int
		e api.Errno
	}
	one := func(a api.Int, e api.Errno) answer { return answer{a, e} }
	for _, a := range []api.Int{{}, big.From(5)} {
		for i, got := range []answer{
			one(big.Left(a, -1)), one(big.Left(a, api.MaxShift+1)), one(big.Left(a, math.MaxInt)), one(big.Left(a, math.MinInt)),
			one(big.Right(a, -1)), one(big.Right(a, math.MinInt)),
			one(big.Pow(a, -1)), one(big.Pow(a, api.MaxExp+1)), one(big.Pow(a, math.MaxInt)),
			one(big.Root(a, 0)), one(big.Root(a, -1)), one(big.Root(a, api.MaxExp+1)), one(big.Root(a, math.MaxInt)),
			one(big.Root(big.From(-1), 1)), one(big.Root(big.From(-8), 3)),
		} {
			if !reflect.DeepEqual(got, answer{api.Int{}, api.ErrBigShift}) {
				t.Errorf("call %d: %v", i, got)
			}
		}
	}
}

// P1.5: powers.
func TestPow(t *testing.T) {
	m := newMaker()
	for n := range api.MaxExp + 1 {
		for _, limbs := range []int{0, 1, 2, 3} {
			a := m.number(limbs)
			p, e := big.Pow(a, n)
			fine(t, "Pow", e)
			same(t, "Pow", p, new(ref.Int).Exp(toRef(a), ref.NewInt(int64(n)), nil))
		}
	}
}

// P1.5: roots, also of powers and of what is next to them.
func TestRoot(t *testing.T) {
	m := newMaker()
	for n := 1; n <= api.MaxExp; n++ {
		for _, limbs := range []int{0, 1, 2, 5, 40} {
			holdRoot(t, big.Abs(m.number(limbs)), n)
			p, _ := big.Pow(big.Abs(m.number(min(limbs, 3))), n)
			holdRoot(t, p, n)
			above, _ := big.Add(p, big.From(1))
			holdRoot(t, above, n)
			if below, _ := big.Sub(p, big.From(1)); !below.Neg {
				holdRoot(t, below, n)
			}
		}
		for k := range int64(70) {
			holdRoot(t, big.From(k), n)
		}
	}
	long := big.Abs(m.number(1500))
	holdRoot(t, long, 2)
	holdRoot(t, long, 7)
	if r, e := big.Root(big.From(26), 3); e != api.OK || big.Text(r) != "2" {
		t.Errorf("Root(26, 3): %s, %d", big.Text(r), e)
	}
}

func holdRoot(t *testing.T, a api.Int, n int) {
	t.Helper()
	r, e := big.Root(a, n)
	fine(t, "Root", e)
	if e := big.Check(r); e != api.OK || r.Neg {
		t.Fatalf("Root(%s, %d): %v", big.Text(a), n, r)
	}
	above, _ := big.Add(r, big.From(1))
	exp := ref.NewInt(int64(n))
	if new(ref.Int).Exp(toRef(r), exp, nil).Cmp(toRef(a)) > 0 || new(ref.Int).Exp(toRef(above), exp, nil).Cmp(toRef(a)) <= 0 {
		t.Fatalf("Root(%s, %d): %s", big.Text(a), n, big.Text(r))
	}
}

// P1.6, P1.7: texts, there and back.
func TestTexts(t *testing.T) {
	m := newMaker()
	for range 3000 {
		holdText(t, m.number(m.IntN(30)))
	}
	for n := range 1024 {
		for _, s := range []string{"1" + strings.Repeat("0", n), strings.Repeat("9", n+1), "-1" + strings.Repeat("0", n), "-" + strings.Repeat("9", n+1)} {
			if got := big.Text(parse(t, s)); got != s {
				t.Fatalf("%s: %s", s, got)
			}
			holdText(t, parse(t, s))
		}
	}
	long := m.number(2000)
	if got := big.Text(long); got != toRef(long).String() {
		t.Error("a text longer than MaxDigits")
	}
}

func holdText(t *testing.T, a api.Int) {
	t.Helper()
	s := big.Text(a)
	if s != toRef(a).String() {
		t.Fatalf("Text: %s, want %s", s, toRef(a))
	}
	same(t, "Parse", parse(t, s), toRef(a))
}

// P1.6: texts that are none.
func TestParseRefused(t *testing.T) {
	full := strings.Repeat("9", api.MaxDigits)
	for _, s := range []string{"", "-", "--", "-0", "00", "-00", "01", "-01", "007", "+1", " 1", "1 ", "1\n", "1a", "a1", "0x1", "1-", "1-2", "--1", "1_000", "1.0", "1/2", "\x00", "1\x00", "\xff", "٣", "9:", "9/", full + "0", "-" + full + "0", "0" + full, "-" + strings.Repeat("0", api.MaxDigits)} {
		if a, e := big.Parse(s); e != api.ErrBigText || !reflect.DeepEqual(a, api.Int{}) {
			t.Errorf("Parse(%.40q): %v, %d", s, a, e)
		}
	}
	for c := range 256 {
		_, e := big.Parse("1" + string([]byte{byte(c)}) + "1")
		if digit := c >= '0' && c <= '9'; digit != (e == api.OK) {
			t.Errorf("byte %d: %d", c, e)
		}
	}
	same(t, "Parse", parse(t, "-"+full), toRef(big.Neg(parse(t, full))))
}

// P1.7: a ring, ordered.
func TestLaws(t *testing.T) {
	m := newMaker()
	add := func(a, b api.Int) api.Int { z, _ := big.Add(a, b); return z }
	mul := func(a, b api.Int) api.Int { z, _ := big.Mul(a, b); return z }
	for range 300 {
		a, b, c := m.number(m.IntN(90)), m.number(m.IntN(90)), m.number(m.IntN(90))
		for i, pair := range [][2]api.Int{
			{add(a, b), add(b, a)}, {add(add(a, b), c), add(a, add(b, c))}, {add(a, big.Neg(a)), {}},
			{mul(a, b), mul(b, a)}, {mul(mul(a, b), c), mul(a, mul(b, c))}, {mul(a, add(b, c)), add(mul(a, b), mul(a, c))},
			{mul(a, big.From(1)), a}, {add(a, api.Int{}), a},
		} {
			if big.Cmp(pair[0], pair[1]) != 0 {
				t.Fatalf("law %d: %v, %v, %v", i, a, b, c)
			}
		}
		if big.Cmp(a, b) != big.Cmp(add(a, c), add(b, c)) || big.Sign(mul(a, b)) != big.Sign(a)*big.Sign(b) {
			t.Fatalf("order: %v, %v, %v", a, b, c)
		}
	}
}

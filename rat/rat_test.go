package rat_test

import (
	"math"
	ref "math/big"
	"math/rand/v2"
	"reflect"
	"strings"
	"testing"

	"terrace/api"
	"terrace/big"
	"terrace/rat"
)

// maker makes rationals of all sizes, many of them whole, dyadic, 0, or with common divisors among their parts.
type maker struct{ *rand.Rand }

func newMaker() maker { return maker{rand.New(rand.NewPCG(3, 4))} }

func (m maker) magnitude() *ref.Int {
	switch m.IntN(8) {
	case 0:
		return ref.NewInt(1)
	case 1:
		return new(ref.Int).Lsh(ref.NewInt(1), uint(m.IntN(200)))
	case 2:
		return new(ref.Int).Exp(ref.NewInt(6), ref.NewInt(m.Int64N(90)), nil)
	case 3:
		x := new(ref.Int).SetUint64(math.MaxUint64)
		return x.Mul(x, new(ref.Int).SetUint64(m.Uint64()|1))
	}
	return ref.NewInt(1 + m.Int64N(40))
}

func (m maker) number() *ref.Rat {
	if m.IntN(12) == 0 {
		return new(ref.Rat)
	}
	n := m.magnitude()
	if m.IntN(2) == 0 {
		n.Neg(n)
	}
	return new(ref.Rat).SetFrac(n, m.magnitude())
}

func limbs(x *ref.Int) api.Nat {
	var out api.Nat
	for _, w := range x.Bits() {
		out = append(out, uint64(w))
	}
	return out
}

func whole(x *ref.Int) api.Int {
	return api.Int{Neg: x.Sign() < 0, Mag: limbs(x)}
}

func of(x *ref.Rat) api.Rat {
	return api.Rat{Num: whole(x.Num()), Den: limbs(x.Denom())}
}

func parse(t *testing.T, s string) api.Rat {
	t.Helper()
	a, e := rat.Parse(s)
	if e != api.OK {
		t.Fatalf("Parse(%.40q): %d", s, e)
	}
	return a
}

type answer struct {
	a api.Rat
	e api.Errno
}

func told(a api.Rat, e api.Errno) answer { return answer{a, e} }

func same(t *testing.T, what string, got answer, want *ref.Rat) {
	t.Helper()
	if !reflect.DeepEqual(got, answer{of(want), api.OK}) {
		t.Fatalf("%s: got %v, want %v", what, got, want)
	}
}

// none are values that are no rationals.
func none() []api.Rat {
	one := api.Nat{1}
	return []api.Rat{
		{},
		{Num: big.From(1)},
		{Num: big.From(1), Den: api.Nat{0}},
		{Num: big.From(1), Den: api.Nat{2, 0}},
		{Num: big.From(2), Den: api.Nat{4}},
		{Num: big.From(-3), Den: api.Nat{9}},
		{Num: big.From(5), Den: api.Nat{5}},
		{Num: api.Int{}, Den: api.Nat{2}},
		{Num: api.Int{}, Den: api.Nat{7}},
		{Num: api.Int{}, Den: api.Nat{0, 1}},
		{Num: api.Int{Neg: true}, Den: one},
		{Num: api.Int{Mag: api.Nat{0}}, Den: one},
		{Num: api.Int{Mag: api.Nat{3, 0}}, Den: one},
		{Num: api.Int{Mag: api.Nat{0, 1}}, Den: api.Nat{0, 1}},
		{Num: api.Int{Mag: api.Nat{0, 3}}, Den: api.Nat{2}},
		{Num: api.Int{Mag: api.Nat{0, 0, 3}}, Den: api.Nat{0, 0, 0, 3}},
		{Num: api.Int{Mag: api.Nat{6, 6}}, Den: api.Nat{9, 9}},
	}
}

// P2.1: what is a rational, and what is none.
func TestCheck(t *testing.T) {
	for _, a := range none() {
		if e := rat.Check(a); e != api.ErrRatForm {
			t.Errorf("Check(%v): %d", a, e)
		}
	}
	for _, a := range []api.Rat{
		{Den: api.Nat{1}},
		{Num: api.Int{Mag: api.Nat{}}, Den: api.Nat{1}},
		{Num: big.From(-4), Den: api.Nat{1}},
		{Num: big.From(3), Den: api.Nat{4}},
		{Num: big.From(-3), Den: api.Nat{0, 1}},
		{Num: api.Int{Mag: api.Nat{0, 1}}, Den: api.Nat{3}},
		{Num: api.Int{Mag: api.Nat{0, 1}}, Den: api.Nat{1, 1}},
	} {
		if e := rat.Check(a); e != api.OK {
			t.Errorf("Check(%v): %d", a, e)
		}
	}
}

// P2.1: each call that tells an Errno tells ErrRatForm ahead of its other errors, with zero values beside it.
func TestNoNumberFirst(t *testing.T) {
	good, zero := parse(t, "5/3"), parse(t, "0")
	for _, bad := range none() {
		for i, got := range []answer{
			told(rat.Add(bad, good)), told(rat.Add(good, bad)), told(rat.Sub(bad, good)), told(rat.Sub(good, bad)),
			told(rat.Mul(bad, zero)), told(rat.Mul(zero, bad)), told(rat.Div(bad, good)), told(rat.Div(good, bad)),
			told(rat.Div(bad, zero)), told(rat.Pow(bad, 1)), told(rat.Pow(bad, 65)), told(rat.Pow(bad, -1)),
			told(rat.Simple(bad, good)), told(rat.Simple(good, bad)), told(rat.Simple(bad, bad)), told(rat.Simple(zero, bad)),
		} {
			if !reflect.DeepEqual(got, answer{e: api.ErrRatForm}) {
				t.Errorf("call %d of %v: %v", i, bad, got)
			}
		}
	}
}

// P2.1: each call that tells no Errno answers zero values.
func TestNoNumberZero(t *testing.T) {
	good := parse(t, "5/3")
	for _, bad := range none() {
		for i, got := range []api.Rat{rat.Neg(bad), rat.Abs(bad), rat.Mid(bad, good), rat.Mid(good, bad)} {
			if !reflect.DeepEqual(got, api.Rat{}) {
				t.Errorf("call %d of %v: %v", i, bad, got)
			}
		}
		if n, is := rat.Whole(bad); is || !reflect.DeepEqual(n, api.Int{}) {
			t.Errorf("Whole(%v): %v, %v", bad, n, is)
		}
		if !reflect.DeepEqual(rat.Floor(bad), api.Int{}) || rat.Sign(bad) != 0 || rat.Text(bad) != "" || rat.Dyadic(bad) {
			t.Errorf("Floor, Sign, Text, Dyadic of %v", bad)
		}
		if rat.Cmp(bad, good) != 0 || rat.Cmp(good, bad) != 0 || rat.Cmp(bad, bad) != 0 {
			t.Errorf("Cmp of %v", bad)
		}
	}
}

// P2.1: Make brings into lowest terms, and refuses what is no number, then 0.
func TestMake(t *testing.T) {
	m := newMaker()
	for range 4000 {
		n, d := m.magnitude(), m.magnitude()
		if m.IntN(2) == 0 {
			n.Neg(n)
		}
		if m.IntN(10) == 0 {
			n.SetInt64(0)
		}
		same(t, "Make", told(rat.Make(whole(n), limbs(d))), new(ref.Rat).SetFrac(n, d))
	}
	noNumber := api.Int{Mag: api.Nat{1, 0}}
	for i, c := range []struct {
		got  answer
		want api.Errno
	}{
		{told(rat.Make(noNumber, api.Nat{1})), api.ErrRatForm},
		{told(rat.Make(api.Int{Neg: true}, api.Nat{1})), api.ErrRatForm},
		{told(rat.Make(noNumber, nil)), api.ErrRatForm},
		{told(rat.Make(big.From(1), api.Nat{0})), api.ErrRatForm},
		{told(rat.Make(big.From(1), api.Nat{3, 0})), api.ErrRatForm},
		{told(rat.Make(big.From(1), nil)), api.ErrRatZero},
		{told(rat.Make(big.From(0), api.Nat{})), api.ErrRatZero},
	} {
		if !reflect.DeepEqual(c.got, answer{e: c.want}) {
			t.Errorf("%d: %v", i, c.got)
		}
	}
}

// P2.1: From, Whole and Dyadic.
func TestFromWholeDyadic(t *testing.T) {
	m := newMaker()
	for range 2000 {
		x := m.number()
		a := of(x)
		n, is := rat.Whole(a)
		if is != x.IsInt() || is && !reflect.DeepEqual(n, a.Num) || !is && !reflect.DeepEqual(n, api.Int{}) {
			t.Fatalf("Whole(%v): %v, %v", x, n, is)
		}
		if got := rat.From(a.Num); !reflect.DeepEqual(got, api.Rat{Num: a.Num, Den: api.Nat{1}}) {
			t.Fatalf("From(%v): %v", x.Num(), got)
		}
		two := x.Denom().TrailingZeroBits()
		if want := x.Denom().BitLen() == int(two)+1; rat.Dyadic(a) != want {
			t.Fatalf("Dyadic(%v): %v", x, !want)
		}
	}
	for _, n := range []api.Int{{Neg: true}, {Mag: api.Nat{0}}} {
		if got := rat.From(n); !reflect.DeepEqual(got, api.Rat{}) {
			t.Errorf("From(%v): %v", n, got)
		}
	}
}

// P2.2: sums, differences, products, quotients, opposites.
func TestReckoned(t *testing.T) {
	m := newMaker()
	for range 6000 {
		x, y := m.number(), m.number()
		a, b := of(x), of(y)
		z := new(ref.Rat)
		same(t, "Add", told(rat.Add(a, b)), z.Add(x, y))
		same(t, "Sub", told(rat.Sub(a, b)), z.Sub(x, y))
		same(t, "Sub", told(rat.Sub(a, a)), new(ref.Rat))
		same(t, "Mul", told(rat.Mul(a, b)), z.Mul(x, y))
		same(t, "Neg", answer{a: rat.Neg(a)}, z.Neg(x))
		same(t, "Abs", answer{a: rat.Abs(a)}, z.Abs(x))
		got := told(rat.Div(a, b))
		if y.Sign() != 0 {
			same(t, "Div", got, z.Quo(x, y))
		} else if !reflect.DeepEqual(got, answer{e: api.ErrRatZero}) {
			t.Fatalf("Div(%v, 0): %v", x, got)
		}
	}
}

// P2.2: powers, and what may not be one.
func TestPow(t *testing.T) {
	m := newMaker()
	for range 600 {
		x := m.number()
		for _, n := range []int{-64, -3, -1, 0, 1, 2, 7, 64} {
			k := ref.NewInt(int64(max(n, -n)))
			num, den := new(ref.Int).Exp(x.Num(), k, nil), new(ref.Int).Exp(x.Denom(), k, nil)
			got := told(rat.Pow(of(x), n))
			switch {
			case n >= 0:
				same(t, "Pow", got, new(ref.Rat).SetFrac(num, den))
			case x.Sign() != 0:
				same(t, "Pow", got, new(ref.Rat).SetFrac(den, num))
			case !reflect.DeepEqual(got, answer{e: api.ErrRatZero}):
				t.Fatalf("Pow(0, %d): %v", n, got)
			}
		}
	}
	for _, n := range []int{api.MaxExp + 1, -api.MaxExp - 1, math.MaxInt, math.MinInt} {
		for _, s := range []string{"0", "1", "-2/3"} {
			if got := told(rat.Pow(parse(t, s), n)); !reflect.DeepEqual(got, answer{e: api.ErrRatPow}) {
				t.Errorf("Pow(%s, %d): %v", s, n, got)
			}
		}
	}
}

// P2.3: signs, order, floors, middles.
func TestPlaces(t *testing.T) {
	m := newMaker()
	for range 6000 {
		x, y := m.number(), m.number()
		a, b := of(x), of(y)
		if rat.Sign(a) != x.Sign() || rat.Cmp(a, b) != x.Cmp(y) || rat.Cmp(a, a) != 0 {
			t.Fatalf("Sign(%v): %d; Cmp with %v: %d", x, rat.Sign(a), y, rat.Cmp(a, b))
		}
		floor := new(ref.Int).Div(x.Num(), x.Denom())
		if got := rat.Floor(a); !reflect.DeepEqual(got, whole(floor)) {
			t.Fatalf("Floor(%v): %v", x, got)
		}
		z := new(ref.Rat).Add(x, y)
		same(t, "Mid", answer{a: rat.Mid(a, b)}, z.Mul(z, ref.NewRat(1, 2)))
	}
}

// simplest tries one denominator after the other.
func simplest(x, y *ref.Rat) *ref.Rat {
	if x.Sign() <= 0 && y.Sign() >= 0 {
		return new(ref.Rat)
	}
	if y.Sign() < 0 {
		z := simplest(new(ref.Rat).Neg(y), new(ref.Rat).Neg(x))
		return z.Neg(z)
	}
	for d := int64(1); ; d++ {
		// The least numerator that is not below x: x d, rounded up.
		up := new(ref.Int).Mul(x.Num(), ref.NewInt(d))
		up.Neg(up).Div(up, x.Denom()).Neg(up)
		if z := new(ref.Rat).SetFrac(up, ref.NewInt(d)); z.Cmp(y) <= 0 {
			return z
		}
	}
}

// P2.4: Simple, held against all denominators, one by one.
func TestSimple(t *testing.T) {
	m := newMaker()
	for range 20000 {
		x := ref.NewRat(m.Int64N(400)-200, 1+m.Int64N(150))
		y := ref.NewRat(m.Int64N(400)-200, 1+m.Int64N(150))
		if m.IntN(3) == 0 {
			y = new(ref.Rat).Add(x, ref.NewRat(m.Int64N(3), 1+m.Int64N(3000)))
		}
		if x.Cmp(y) > 0 {
			if got := told(rat.Simple(of(x), of(y))); !reflect.DeepEqual(got, answer{e: api.ErrRatOrder}) {
				t.Fatalf("Simple(%v, %v): %v", x, y, got)
			}
			x, y = y, x
		}
		same(t, "Simple", told(rat.Simple(of(x), of(y))), simplest(x, y))
	}
}

// P2.4: of long numbers: each is the simplest one by itself, and near one that is simple, that one.
func TestSimpleLong(t *testing.T) {
	m := newMaker()
	tiny := new(ref.Rat).SetFrac(ref.NewInt(1), new(ref.Int).Lsh(ref.NewInt(1), 1200))
	for range 300 {
		x := m.number()
		same(t, "Simple", told(rat.Simple(of(x), of(x))), x)
		low, high := new(ref.Rat).Sub(x, tiny), new(ref.Rat).Add(x, tiny)
		same(t, "Simple", told(rat.Simple(of(low), of(high))), x)
		same(t, "Simple", told(rat.Simple(of(x), of(high))), x)
		same(t, "Simple", told(rat.Simple(of(low), of(x))), x)
	}
}

// P2.4: the chapter's examples, and ends that count.
func TestSimpleExamples(t *testing.T) {
	for _, c := range [][3]string{
		{"3/10", "2/5", "1/3"}, {"-5/2", "7", "0"}, {"5/2", "7", "3"}, {"-7", "-5/2", "-3"}, {"0", "7", "0"}, {"-7", "0", "0"},
		{"1/3", "1/2", "1/2"}, {"-1/2", "-1/3", "-1/2"}, {"2", "5/2", "2"}, {"3/2", "2", "2"}, {"1", "1", "1"}, {"0", "0", "0"},
		{"5/7", "5/7", "5/7"}, {"-5/7", "-5/7", "-5/7"}, {"1/1000", "1/999", "1/999"}, {"999", "1000", "999"}, {"-1000", "-999", "-999"},
	} {
		if got := told(rat.Simple(parse(t, c[0]), parse(t, c[1]))); !reflect.DeepEqual(got, told(rat.Parse(c[2]))) {
			t.Errorf("Simple(%s, %s): %s, %d", c[0], c[1], rat.Text(got.a), got.e)
		}
	}
}

// P2.5: texts of rationals.
func TestText(t *testing.T) {
	m := newMaker()
	for range 4000 {
		x := m.number()
		if got := rat.Text(of(x)); got != x.RatString() {
			t.Fatalf("Text(%v): %s", x, got)
		}
		same(t, "Parse", told(rat.Parse(x.RatString())), x)
	}
}

// P2.5: texts that are none.
func TestNoText(t *testing.T) {
	for _, s := range []string{
		"", "/", "1/", "/2", "-", "-/2", "1/-2", "-1/-2", "+1", "+1/2", "1/+2", "01/2", "1/02", "-01/2", "00", "-0", "-0/1", "-0/2",
		"0/1", "0/2", "0/0", "1/0", "1/1", "3/1", "2/4", "6/4", "-3/9", "7/7", "1//2", "1/2/3", "1/2/", "1 /2", "1/ 2", " 1/2", "1/2 ",
		"1/2\n", "1/2\x00", "0x1", "1e3", "1.5", "1_0", "٣", "1/٣", "½", "a", "1/a", "\xff",
	} {
		if got := told(rat.Parse(s)); !reflect.DeepEqual(got, answer{e: api.ErrRatText}) {
			t.Errorf("Parse(%q): %v", s, got)
		}
	}
}

// P2.5: each number has at most MaxDigits digits.
func TestLongText(t *testing.T) {
	most := strings.Repeat("9", api.MaxDigits)
	ten := "1" + strings.Repeat("0", api.MaxDigits-1)
	for _, s := range []string{most, "-" + most, most + "/2", "-2/" + most, "-" + most + "/" + ten, "-" + ten + "/" + most} {
		if got := rat.Text(parse(t, s)); got != s {
			t.Errorf("Text: %.40q, not %.40q", got, s)
		}
	}
	for _, s := range []string{"1" + most, "-1" + most, "1/1" + most, "1" + most + "/7", most + "/" + ten + "0", most + "/" + most, ten + "/2"} {
		if got := told(rat.Parse(s)); !reflect.DeepEqual(got, answer{e: api.ErrRatText}) {
			t.Errorf("Parse of %d bytes: %d", len(s), got.e)
		}
	}
	// The digits that may be read bound no text that is told.
	long, _ := rat.Mul(parse(t, most), parse(t, most))
	if n := len(rat.Text(long)); n != 2*api.MaxDigits {
		t.Errorf("Text of a product: %d bytes", n)
	}
}

// ring reckons where no error can be.
type ring struct{ t *testing.T }

func (r ring) ok(a api.Rat, e api.Errno) api.Rat {
	r.t.Helper()
	if e != api.OK || rat.Check(a) != api.OK {
		r.t.Fatalf("error %d, %v", e, a)
	}
	return a
}

// P2.6: a field, ordered.
func TestField(t *testing.T) {
	m, r := newMaker(), ring{t}
	zero, one := parse(t, "0"), parse(t, "1")
	for range 2000 {
		a, b, c := of(m.number()), of(m.number()), of(m.number())
		equal := func(what string, x, y api.Rat) {
			t.Helper()
			if !reflect.DeepEqual(x, y) {
				t.Fatalf("%s: of %s, %s, %s", what, rat.Text(a), rat.Text(b), rat.Text(c))
			}
		}
		sum, product := r.ok(rat.Add(a, b)), r.ok(rat.Mul(a, b))
		equal("a + b is b + a", sum, r.ok(rat.Add(b, a)))
		equal("a b is b a", product, r.ok(rat.Mul(b, a)))
		equal("(a + b) + c is a + (b + c)", r.ok(rat.Add(sum, c)), r.ok(rat.Add(a, r.ok(rat.Add(b, c)))))
		equal("(a b) c is a (b c)", r.ok(rat.Mul(product, c)), r.ok(rat.Mul(a, r.ok(rat.Mul(b, c)))))
		equal("(a + b) c is a c + b c", r.ok(rat.Mul(sum, c)), r.ok(rat.Add(r.ok(rat.Mul(a, c)), r.ok(rat.Mul(b, c)))))
		equal("a + 0 is a", r.ok(rat.Add(a, zero)), a)
		equal("a 1 is a", r.ok(rat.Mul(a, one)), a)
		equal("a + -a is 0", r.ok(rat.Add(a, rat.Neg(a))), zero)
		if rat.Sign(a) != 0 {
			equal("a (1 / a) is 1", r.ok(rat.Mul(a, r.ok(rat.Div(one, a)))), one)
			equal("a to the -1 is 1 / a", r.ok(rat.Pow(a, -1)), r.ok(rat.Div(one, a)))
		}
		if rat.Cmp(a, b) < 0 && rat.Cmp(r.ok(rat.Add(a, c)), r.ok(rat.Add(b, c))) != -1 {
			t.Fatal("a below b, but not a + c below b + c")
		}
		if rat.Cmp(a, b) != -rat.Cmp(b, a) || rat.Sign(product) != rat.Sign(a)*rat.Sign(b) {
			t.Fatal("order, signs")
		}
	}
}

// P2.6: Floor, Mid and Simple are where they are said to be.
func TestWhereTheyAre(t *testing.T) {
	m, r := newMaker(), ring{t}
	for range 3000 {
		a, b := of(m.number()), of(m.number())
		if rat.Cmp(a, b) > 0 {
			a, b = b, a
		}
		low := rat.From(rat.Floor(a))
		if rat.Cmp(low, a) > 0 || rat.Cmp(a, r.ok(rat.Add(low, parse(t, "1")))) >= 0 {
			t.Fatalf("Floor(%s)", rat.Text(a))
		}
		mid := r.ok(rat.Mid(a, b), api.OK)
		equal := rat.Cmp(a, b) == 0
		if rat.Cmp(a, mid) > 0 || rat.Cmp(mid, b) > 0 || !equal && (rat.Cmp(a, mid) == 0 || rat.Cmp(mid, b) == 0) {
			t.Fatalf("Mid(%s, %s)", rat.Text(a), rat.Text(b))
		}
		s := r.ok(rat.Simple(a, b))
		if rat.Cmp(a, s) > 0 || rat.Cmp(s, b) > 0 {
			t.Fatalf("Simple(%s, %s): %s", rat.Text(a), rat.Text(b), rat.Text(s))
		}
	}
}

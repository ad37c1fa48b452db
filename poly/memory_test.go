package poly_test

import (
	"reflect"
	"testing"

	"terrace/api"
	"terrace/big"
	"terrace/poly"
	"terrace/rat"
)

// told by each call: polynomials, and numbers as polynomials.
func calls(p, q api.Poly, a, b api.Rat) []api.Poly {
	one := func(p api.Poly, _ api.Errno) api.Poly { return p }
	content, _ := poly.Content(p)
	value, _ := poly.Eval(p, a)
	values, _ := poly.EvalSpan(p, api.Span{Lo: a, Hi: b})
	point, _ := poly.EvalSpan(q, api.Span{Lo: b, Hi: b})
	quo, rest, _, _ := poly.PDiv(p, q)
	quo2, rest2, _, _ := poly.PDiv(q, p)
	out := []api.Poly{
		one(poly.Add(p, q)), one(poly.Add(p, nil)), one(poly.Sub(p, q)), one(poly.Sub(q, nil)), one(poly.Mul(p, q)), one(poly.Mul(p, ints(1))),
		one(poly.Neg(p)), one(poly.Scale(p, big.From(1))), one(poly.Scale(p, a.Num)), one(poly.Der(p)), one(poly.Der(q)), one(poly.Prim(p)), one(poly.Prim(q)),
		one(poly.Exact(p, ints(1))), one(poly.Exact(p, p)), one(poly.Gcd(p, q)), one(poly.Gcd(p, p)), one(poly.Gcd(p, nil)), one(poly.Gcd(nil, q)),
		quo, rest, quo2, rest2, {poly.Lead(p)}, {content}, number2(value), number2(values.Lo), number2(values.Hi), number2(point.Lo), number2(point.Hi),
	}
	return out
}

func number2(a api.Rat) api.Poly { return api.Poly{a.Num, {Mag: a.Den}} }

func deepCopy(lists []api.Poly) []api.Poly {
	var out []api.Poly
	for _, p := range lists {
		var row api.Poly
		for _, c := range p {
			row = append(row, api.Int{Neg: c.Neg, Mag: append(api.Nat(nil), c.Mag...)})
		}
		out = append(out, row)
	}
	return out
}

// spoil writes into all memory of a list, its spare room too.
func spoil(x api.Nat) {
	for i := range x[:cap(x)] {
		x[:cap(x)][i] ^= 0xa5a5a5a5a5a5a5a5
	}
}

// spoilOuter writes into the coefficients themselves, their spare room too.
func spoilOuter(p api.Poly) {
	for i := range p[:cap(p)] {
		p[:cap(p)][i] = big.From(77)
	}
}

func samples() [][2]api.Poly {
	long := api.Poly{{Mag: api.Nat{1, 2, 3}}, {}, {Neg: true, Mag: api.Nat{5, 7}}, {Mag: api.Nat{9}}}
	return [][2]api.Poly{
		{nil, ints(1)}, {ints(3), ints(1)}, {ints(1, 2, 1), ints(1, 1)}, {ints(-1, 0, 1), ints(-1, -1)}, {ints(4, 0, -6), ints(0, 2)}, {long, ints(1, 0, 2)}, {long, long}, {ints(1, 1), long},
	}
}

// R2: what is handed in is not changed, and what is told shares no memory with it or with anything else.
func TestNewMemory(t *testing.T) {
	half, _ := rat.Parse("-1/2")
	third, _ := rat.Parse("7/3")
	for n, c := range samples() {
		given := []api.Poly{c[0], c[1], number2(half), number2(third)}
		kept := deepCopy(given)
		all := calls(c[0], c[1], half, third)
		want := deepCopy(all)
		for i, p := range all {
			for k, a := range p {
				spoil(a.Mag)
				want[i][k].Mag = append(api.Nat(nil), a.Mag...)
				if !reflect.DeepEqual(deepCopy(all), want) {
					t.Fatalf("%d: call %d, coefficient %d is shared with another one", n, i, k)
				}
			}
		}
		for i, p := range all {
			spoilOuter(p)
			want[i] = deepCopy([]api.Poly{p})[0]
			if !reflect.DeepEqual(deepCopy(all), want) {
				t.Fatalf("%d: call %d: its list is shared with another one", n, i)
			}
		}
		if !reflect.DeepEqual(deepCopy(given), kept) {
			t.Fatalf("%d: an argument was changed", n)
		}
	}
}

// R2: the spare room of what is handed in is neither written nor read, its lists may share memory, and an empty list
// is a nil one.
func TestSpareRoomOfArguments(t *testing.T) {
	room := api.Nat{7, 3, 5, 9}
	outer := api.Poly{{Mag: room[0:1]}, {Mag: api.Nat{}}, {Neg: true, Mag: room[0:2]}, {Mag: room[2:3]}, big.From(11)}
	p, q := outer[:3], outer[:1]
	half, _ := rat.Parse("1/2")
	kept := deepCopy([]api.Poly{outer})
	got := calls(p, q, half, half)
	want := calls(api.Poly{big.From(7), {}, {Neg: true, Mag: api.Nat{7, 3}}}, ints(7), half, half)
	if !reflect.DeepEqual(got, want) || !reflect.DeepEqual(deepCopy([]api.Poly{outer}), kept) || !reflect.DeepEqual(room, api.Nat{7, 3, 5, 9}) {
		t.Error("spare room counts")
	}
	empty := calls(api.Poly{}, api.Poly{}, half, half)
	if !reflect.DeepEqual(empty, calls(nil, nil, half, half)) {
		t.Error("an empty list is not a nil one")
	}
}

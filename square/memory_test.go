package square_test

import (
	"reflect"
	"testing"

	"terrace/api"
	"terrace/big"
	"terrace/square"
)

// told are the polynomials that the calls tell of p, p itself last.
func told(p api.Poly) []api.Poly {
	part, _ := square.Part(p)
	parts, _ := square.Parts(p)
	again, _ := square.Parts(p)
	out := []api.Poly{part}
	for _, f := range append(parts, again...) {
		out = append(out, f.P)
	}
	return append(out, p)
}

func deepCopy(lists []api.Poly) []api.Poly {
	var out []api.Poly
	for _, p := range lists {
		var row api.Poly
		for _, c := range p {
			row = append(row, api.Int{Neg: c.Neg, Mag: append(api.Nat(nil), c.Mag...)})
		}
		out = append(out, row)
	}
	return out
}

// spoil writes into all memory of a list, its spare room too.
func spoil(x api.Nat) {
	for i := range x[:cap(x)] {
		x[:cap(x)][i] ^= 0xa5a5a5a5a5a5a5a5
	}
}

// spoilOuter writes into the coefficients themselves, their spare room too.
func spoilOuter(p api.Poly) {
	for i := range p[:cap(p)] {
		p[:cap(p)][i] = big.From(77)
	}
}

func samples(t *testing.T) []api.Poly {
	return []api.Poly{
		ints(1), ints(-8), ints(0, 1), ints(-1, 0, 1), ints(1, 2, 1), ints(-2, -4, -2),
		product(t, big.From(1), []api.Factor{{P: ints(1, 1), N: 1}, {P: ints(2, 1), N: 2}, {P: ints(3, 1), N: 3}}),
		product(t, big.From(5), []api.Factor{{P: api.Poly{{Mag: api.Nat{1, 2, 3}}, big.From(1)}, N: 2}, {P: ints(3, 1), N: 3}}),
	}
}

// R2: what is handed in is not changed, and what is told shares no memory with it or with anything else.
func TestNewMemory(t *testing.T) {
	for n, p := range samples(t) {
		kept := deepCopy([]api.Poly{p})
		all := told(p)
		if !reflect.DeepEqual(deepCopy([]api.Poly{p}), kept) {
			t.Fatalf("%d: the argument was changed", n)
		}
		want := deepCopy(all)
		for i, q := range all {
			for k, a := range q {
				spoil(a.Mag)
				want[i][k].Mag = append(api.Nat(nil), a.Mag...)
				if !reflect.DeepEqual(deepCopy(all), want) {
					t.Fatalf("%d: list %d, coefficient %d is shared with another one", n, i, k)
				}
			}
		}
		for i, q := range all {
			spoilOuter(q)
			want[i] = deepCopy([]api.Poly{q})[0]
			if !reflect.DeepEqual(deepCopy(all), want) {
				t.Fatalf("%d: list %d is shared with another one", n, i)
			}
		}
	}
}

// R2: the lists of parts of two calls are apart, and none has room behind it that another call's answer lies in.
func TestListsApart(t *testing.T) {
	p := samples(t)[6]
	a, _ := square.Parts(p)
	b, _ := square.Parts(p)
	want, _ := square.Parts(p)
	for i := range a[:cap(a)] {
		a[:cap(a)][i] = api.Factor{P: ints(9), N: 9}
	}
	if !alike(b, want) {
		t.Error("two answers share their list")
	}
}

// R2: the spare room of what is handed in is neither written nor read, its lists may share memory, and an empty list
// is a nil one.
func TestSpareRoomOfArguments(t *testing.T) {
	room := api.Nat{4, 3, 5, 9}
	outer := api.Poly{{Mag: room[0:1]}, {Mag: room[0:1]}, {Mag: api.Nat{1}}, big.From(11)}
	kept := deepCopy([]api.Poly{outer})
	got := told(outer[:3])
	if !reflect.DeepEqual(got[:3], told(ints(4, 4, 1))[:3]) || !reflect.DeepEqual(deepCopy([]api.Poly{outer}), kept) || !reflect.DeepEqual(room, api.Nat{4, 3, 5, 9}) {
		t.Error("spare room counts")
	}
	withEmpty := api.Poly{{Mag: api.Nat{}}, {Mag: api.Nat{}}, big.From(2)}
	if !reflect.DeepEqual(told(withEmpty)[:3], told(ints(0, 0, 2))[:3]) {
		t.Error("an empty list is not a nil one")
	}
}

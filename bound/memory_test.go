package bound_test

import (
	"reflect"
	"testing"

	"terrace/api"
	"terrace/big"
	"terrace/bound"
)

// told are the polynomials that the calls tell of p and c, p itself and c last.
func told(p api.Poly, c api.Int) []api.Poly {
	one := func(p api.Poly, _ api.Errno) api.Poly { return p }
	bound.Changes(p)
	bound.Bound(p)
	return []api.Poly{
		one(bound.Shift(p, c)), one(bound.Shift(p, c)), one(bound.Shift(p, api.Int{})), one(bound.Shift(p, big.From(1))),
		one(bound.Mirror(p)), one(bound.Mirror(p)), one(bound.Turn(p)), one(bound.Turn(p)),
		one(bound.Stretch(p, 0)), one(bound.Stretch(p, 0)), one(bound.Stretch(p, 3)), one(bound.Stretch(p, -3)), one(bound.Stretch(p, -64)),
		p, {c},
	}
}

func deepCopy(lists []api.Poly) []api.Poly {
	var l []api.Poly
	for _, p := range lists {
		var row api.Poly
		for _, c := range p {
			row = append(row, api.Int{Neg: c.Neg, Mag: append(api.Nat(nil), c.Mag...)})
		}
		l = append(l, row)
	}
	return l
}

// spoil writes into all memory of a list, its spare room too.
func spoil(x api.Nat) {
	for i := range x[:cap(x)] {
		x[:cap(x)][i] ^= 0xa5a5a5a5a5a5a5a5
	}
}

// spoilOuter writes into the coefficients themselves, their spare room too.
func spoilOuter(p api.Poly) {
	for i := range p[:cap(p)] {
		p[:cap(p)][i] = big.From(77)
	}
}

func samples() []api.Poly {
	return []api.Poly{
		nil, ints(3), ints(-8), ints(0, 1), ints(0, 0, 5), ints(-1, 0, 1), ints(1, 2, 1), ints(0, 4, 0, -6, 2),
		{long(false, 1, 2, 3), {}, long(true, 5, 7), long(false, 9)},
	}
}

// R2: what is handed in is not changed, and what is told shares no memory with it or with anything else.
func TestNewMemory(t *testing.T) {
	for n, p := range samples() {
		c := long(true, 7, 1)
		kept := deepCopy([]api.Poly{p, {c}})
		all := told(p, c)
		if !reflect.DeepEqual(deepCopy([]api.Poly{p, {c}}), kept) {
			t.Fatalf("%d: an argument was changed", n)
		}
		want := deepCopy(all)
		for i, q := range all {
			for k, a := range q {
				spoil(a.Mag)
				want[i][k].Mag = append(api.Nat(nil), a.Mag...)
				if !reflect.DeepEqual(deepCopy(all), want) {
					t.Fatalf("%d: list %d, coefficient %d is shared with another one", n, i, k)
				}
			}
		}
		for i, q := range all {
			spoilOuter(q)
			want[i] = deepCopy([]api.Poly{q})[0]
			if !reflect.DeepEqual(deepCopy(all), want) {
				t.Fatalf("%d: list %d is shared with another one", n, i)
			}
		}
	}
}

// R2: the spare room of what is handed in is neither written nor read, its lists may share memory, and an empty list
// is a nil one.
func TestSpareRoomOfArguments(t *testing.T) {
	room := api.Nat{4, 3, 5, 9}
	outer := api.Poly{{Mag: room[0:1]}, {Mag: room[0:1]}, {Mag: room[0:2]}, big.From(11)}
	kept := deepCopy([]api.Poly{outer})
	got := told(outer[:3], api.Int{Mag: room[0:1]})
	want := told(api.Poly{big.From(4), big.From(4), long(false, 4, 3)}, big.From(4))
	if !reflect.DeepEqual(got, want) || !reflect.DeepEqual(deepCopy([]api.Poly{outer}), kept) || !reflect.DeepEqual(room, api.Nat{4, 3, 5, 9}) {
		t.Error("spare room counts")
	}
	withEmpty := api.Poly{{Mag: api.Nat{}}, {Mag: api.Nat{}}, big.From(2)}
	got, want = told(withEmpty, api.Int{Mag: api.Nat{}}), told(ints(0, 0, 2), api.Int{})
	if n := len(got) - 2; !reflect.DeepEqual(got[:n], want[:n]) || bound.Changes(withEmpty) != 0 {
		t.Error("an empty list is not a nil one")
	}
	if k, e := bound.Bound(withEmpty); e != api.OK || k != 0 {
		t.Error("an empty list is not a nil one")
	}
}

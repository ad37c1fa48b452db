package rat_test

import (
	"reflect"
	"testing"

	"terrace/api"
	"terrace/rat"
)

// calls are all calls that tell rationals or numbers: the lists of each.
func calls(a, b api.Rat) [][]api.Nat {
	one := func(x api.Rat, _ api.Errno) []api.Nat { return []api.Nat{x.Num.Mag, x.Den} }
	alone := func(x api.Rat) []api.Nat { return []api.Nat{x.Num.Mag, x.Den} }
	number := func(x api.Int, _ bool) []api.Nat { return []api.Nat{x.Mag} }
	return [][]api.Nat{
		one(rat.Make(a.Num, b.Den)), one(rat.Make(a.Num, a.Den)), alone(rat.From(a.Num)), number(rat.Whole(a)), number(rat.Whole(b)),
		one(rat.Add(a, b)), one(rat.Sub(a, b)), one(rat.Mul(a, b)), one(rat.Div(a, b)), one(rat.Add(a, a)), one(rat.Sub(b, b)),
		alone(rat.Neg(a)), alone(rat.Abs(a)), alone(rat.Abs(b)), one(rat.Pow(a, 0)), one(rat.Pow(a, 1)), one(rat.Pow(a, -1)), one(rat.Pow(b, -3)),
		number(rat.Floor(a), true), number(rat.Floor(b), true), alone(rat.Mid(a, b)), alone(rat.Mid(b, b)),
		one(rat.Simple(a, a)), one(rat.Simple(b, b)), one(rat.Simple(a, b)), one(rat.Simple(b, a)),
	}
}

func deepCopy(lists [][]api.Nat) [][]api.Nat {
	var out [][]api.Nat
	for _, l := range lists {
		var row []api.Nat
		for _, x := range l {
			row = append(row, append(api.Nat(nil), x...))
		}
		out = append(out, row)
	}
	return out
}

// spoil writes into all memory of a list, its spare room too.
func spoil(x api.Nat) {
	for i := range x[:cap(x)] {
		x[:cap(x)][i] ^= 0xa5a5a5a5a5a5a5a5
	}
}

// R2: what is handed in is not changed, and what is told shares no memory with it or with anything else.
func TestNewMemory(t *testing.T) {
	for _, texts := range [][2]string{
		{"0", "1"}, {"5", "-7"}, {"1/2", "-3/8"}, {"22/7", "22/7"}, {"-4/9", "6"}, {"0", "3/5"}, {"1/3", "0"},
		{"340282366920938463463374607431768211457/340282366920938463463374607431768211455", "-18446744073709551617/36893488147419103232"},
	} {
		a, b := parse(t, texts[0]), parse(t, texts[1])
		given := [][]api.Nat{{a.Num.Mag, a.Den, b.Num.Mag, b.Den}}
		kept := deepCopy(given)
		all := calls(a, b)
		want := deepCopy(all)
		for i, l := range all {
			for k, x := range l {
				spoil(x)
				want[i][k] = append(api.Nat(nil), x...)
				if !reflect.DeepEqual(deepCopy(all), want) {
					t.Fatalf("%v: call %d, list %d is shared with another one", texts, i, k)
				}
			}
		}
		if !reflect.DeepEqual(deepCopy(given), kept) {
			t.Fatalf("%v: an argument was changed", texts)
		}
	}
}

// R2: the spare room of what is handed in is neither written nor read; an empty list is a nil one.
func TestSpareRoomOfArguments(t *testing.T) {
	room := api.Nat{7, 3, 5, 9}
	a := api.Rat{Num: api.Int{Neg: true, Mag: room[0:1:2]}, Den: room[2:3]}
	b := api.Rat{Num: api.Int{Mag: api.Nat{}}, Den: api.Nat{1}}
	if !reflect.DeepEqual(calls(a, b), calls(parse(t, "-7/5"), parse(t, "0"))) || !reflect.DeepEqual(room, api.Nat{7, 3, 5, 9}) {
		t.Error("spare room counts")
	}
}

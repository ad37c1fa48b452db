package span_test

import (
	"reflect"
	"testing"

	"terrace/api"
	"terrace/span"
)

// calls are all calls that tell intervals or rationals: the lists of each.
func calls(s, u api.Span) [][]api.Nat {
	one := func(x api.Span, _ api.Errno) []api.Nat {
		return []api.Nat{x.Lo.Num.Mag, x.Lo.Den, x.Hi.Num.Mag, x.Hi.Den}
	}
	wide := func(x api.Rat, _ api.Errno) []api.Nat { return []api.Nat{x.Num.Mag, x.Den} }
	meet := func(x api.Span, _ bool, e api.Errno) []api.Nat { return one(x, e) }
	halves := func(x, y api.Span, e api.Errno) []api.Nat { return append(one(x, e), one(y, e)...) }
	return [][]api.Nat{
		one(span.Of(s.Lo)), one(span.Of(u.Hi)), wide(span.Wide(s)), wide(span.Wide(u)),
		one(span.Add(s, u)), one(span.Add(s, s)), one(span.Sub(s, u)), one(span.Sub(u, u)), one(span.Mul(s, u)), one(span.Mul(u, u)),
		one(span.Neg(s)), one(span.Neg(u)), one(span.Pow(s, 0)), one(span.Pow(s, 1)), one(span.Pow(s, 2)), one(span.Pow(u, 3)), one(span.Pow(u, 4)),
		meet(span.Meet(s, u)), meet(span.Meet(s, s)), meet(span.Meet(u, s)), halves(span.Halves(s)), halves(span.Halves(u)),
	}
}

func deepCopy(lists [][]api.Nat) [][]api.Nat {
	var out [][]api.Nat
	for _, l := range lists {
		var row []api.Nat
		for _, x := range l {
			row = append(row, append(api.Nat(nil), x...))
		}
		out = append(out, row)
	}
	return out
}

// spoil writes into all memory of a list, its spare room too.
func spoil(x api.Nat) {
	for i := range x[:cap(x)] {
		x[:cap(x)][i] ^= 0xa5a5a5a5a5a5a5a5
	}
}

// R2: what is handed in is not changed, and what is told shares no memory with it or with anything else.
func TestNewMemory(t *testing.T) {
	long := "340282366920938463463374607431768211457/340282366920938463463374607431768211455"
	for _, texts := range [][4]string{
		{"0", "0", "0", "1"}, {"0", "0", "0", "0"}, {"1", "1", "-7", "-7"}, {"-1", "2", "3", "4"}, {"-2", "-2", "-2", "2"},
		{"1/2", "3/4", "1/2", "3/4"}, {"-5/3", "-2/3", "0", "22/7"}, {"-5", "22/7", "-5", "6"}, {long, long, "-1/" + long[:39], long},
	} {
		s, u := interval(t, texts[0], texts[1]), interval(t, texts[2], texts[3])
		given := [][]api.Nat{{s.Lo.Num.Mag, s.Lo.Den, s.Hi.Num.Mag, s.Hi.Den, u.Lo.Num.Mag, u.Lo.Den, u.Hi.Num.Mag, u.Hi.Den}}
		kept := deepCopy(given)
		all := calls(s, u)
		want := deepCopy(all)
		for i, l := range all {
			for k, x := range l {
				spoil(x)
				want[i][k] = append(api.Nat(nil), x...)
				if !reflect.DeepEqual(deepCopy(all), want) {
					t.Fatalf("%v: call %d, list %d is shared with another one", texts, i, k)
				}
			}
		}
		if !reflect.DeepEqual(deepCopy(given), kept) {
			t.Fatalf("%v: an argument was changed", texts)
		}
	}
}

// R2: the spare room of what is handed in is neither written nor read, its lists may share memory, and an empty list
// is a nil one.
func TestSpareRoomOfArguments(t *testing.T) {
	room := api.Nat{7, 3, 5, 9}
	low := api.Rat{Num: api.Int{Neg: true, Mag: room[0:1:2]}, Den: room[2:3]}
	s := api.Span{Lo: low, Hi: low}
	u := api.Span{Lo: api.Rat{Num: api.Int{Neg: true, Mag: room[0:1]}, Den: room[2:3]}, Hi: api.Rat{Num: api.Int{Mag: api.Nat{}}, Den: api.Nat{1}}}
	want := calls(interval(t, "-7/5", "-7/5"), interval(t, "-7/5", "0"))
	if !reflect.DeepEqual(calls(s, u), want) || !reflect.DeepEqual(room, api.Nat{7, 3, 5, 9}) {
		t.Error("spare room counts")
	}
}

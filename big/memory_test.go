package big_test

import (
	"reflect"
	"testing"

	"terrace/api"
	"terrace/big"
)

// calls are all calls that tell numbers, each with the lists that it tells.
func calls(a, b api.Int) [][]api.Nat {
	one := func(x api.Int, _ api.Errno) []api.Nat { return []api.Nat{x.Mag} }
	two := func(x, y api.Int, _ api.Errno) []api.Nat { return []api.Nat{x.Mag, y.Mag} }
	return [][]api.Nat{
		{big.Neg(a).Mag}, {big.Abs(a).Mag}, one(big.Add(a, b)), one(big.Sub(a, b)), one(big.Mul(a, b)), one(big.Gcd(a, b)),
		two(big.Divide(a, b)), one(big.Left(a, 0)), one(big.Left(a, 64)), one(big.Right(a, 0)), one(big.Right(a, 70)),
		one(big.Pow(a, 0)), one(big.Pow(a, 1)), one(big.Pow(a, 5)), one(big.Root(big.Abs(a), 1)), one(big.Root(big.Abs(a), 2)),
	}
}

func deepCopy(lists [][]api.Nat) [][]api.Nat {
	var out [][]api.Nat
	for _, l := range lists {
		var row []api.Nat
		for _, x := range l {
			row = append(row, append(api.Nat(nil), x...))
		}
		out = append(out, row)
	}
	return out
}

// spoil writes into all memory of a list, its spare room too.
func spoil(x api.Nat) {
	for i := range x[:cap(x)] {
		x[:cap(x)][i] ^= 0xa5a5a5a5a5a5a5a5
	}
}

// R2: what is handed in is not changed, and what is told shares no memory with it or with anything else.
func TestNewMemory(t *testing.T) {
	m := newMaker()
	for _, sizes := range [][2]int{{3, 2}, {2, 3}, {1, 1}, {3, 0}, {0, 3}, {90, 45}, {45, 90}, {5, 5}} {
		a, b := m.number(sizes[0]), m.number(sizes[1])
		keptA, keptB := append(api.Nat{}, a.Mag...), append(api.Nat{}, b.Mag...)
		told := calls(a, b)
		want := deepCopy(told)
		for i, l := range told {
			for k, x := range l {
				spoil(x)
				want[i][k] = append(api.Nat(nil), x...)
				if !reflect.DeepEqual(deepCopy(told), want) {
					t.Fatalf("sizes %v: call %d, list %d is shared with another one", sizes, i, k)
				}
			}
		}
		if !reflect.DeepEqual(keptA, append(api.Nat{}, a.Mag...)) || !reflect.DeepEqual(keptB, append(api.Nat{}, b.Mag...)) {
			t.Fatalf("sizes %v: an argument was changed", sizes)
		}
	}
}

// R2: the spare room of what is handed in is neither written nor read.
func TestSpareRoomOfArguments(t *testing.T) {
	m := newMaker()
	a, b := m.number(50), m.number(45)
	roomA, roomB := append(append(api.Nat{}, a.Mag...), 1, 2, 3), append(append(api.Nat{}, b.Mag...), 4, 5, 6)
	want := deepCopy(calls(a, b))
	got := deepCopy(calls(api.Int{Neg: a.Neg, Mag: roomA[:50]}, api.Int{Neg: b.Neg, Mag: roomB[:45]}))
	if !reflect.DeepEqual(got, want) || !reflect.DeepEqual(roomA[50:], api.Nat{1, 2, 3}) || !reflect.DeepEqual(roomB[45:], api.Nat{4, 5, 6}) {
		t.Error("spare room counts")
	}
}

// R1: one and the same memory as both arguments.
func TestSameArgument(t *testing.T) {
	m := newMaker()
	for _, n := range []int{0, 1, 2, 45, 100} {
		a := m.number(n)
		b := api.Int{Neg: a.Neg, Mag: append(api.Nat(nil), a.Mag...)}
		if !reflect.DeepEqual(deepCopy(calls(a, a)), deepCopy(calls(a, b))) {
			t.Errorf("%d limbs", n)
		}
	}
}

package modp_test

import (
	"math/rand/v2"
	"reflect"
	"slices"
	"testing"

	"terrace/api"
	"terrace/modp"
)

// told are the polynomials that the calls tell of a and b, twice, and a and b themselves last.
func told(a, b f, p uint64) []f {
	var l []f
	one := func(g f, _ api.Errno) { l = append(l, g) }
	two := func(g, h f, _ api.Errno) { l = append(l, g, h) }
	for range 2 {
		one(modp.Add(a, b, p))
		one(modp.Add(a, nil, p))
		one(modp.Add(nil, b, p))
		one(modp.Sub(a, b, p))
		one(modp.Sub(a, nil, p))
		one(modp.Mul(a, b, p))
		one(modp.Mul(a, f{1}, p))
		one(modp.Der(a, p))
		one(modp.Monic(a, p))
		one(modp.Gcd(a, b, p))
		one(modp.Gcd(a, nil, p))
		one(modp.Gcd(nil, a, p))
		one(modp.Gcd(a, a, p))
		two(modp.DivMod(a, b, p))
		two(modp.DivMod(b, a, p))
		one(modp.Pow(a, 0, b, p))
		one(modp.Pow(a, 1, b, p))
		one(modp.Pow(b, 1, a, p))
		one(modp.Pow(a, 5, b, p))
	}
	modp.Check(a, p)
	modp.Eval(a, p-1, p)
	return append(l, a, b)
}

func copied(l []f) []f {
	r := make([]f, len(l))
	for i, g := range l {
		r[i] = slices.Clone(g)
	}
	return r
}

// spoil writes into all memory of a list, its spare room too.
func spoil(g f) {
	for i := range g[:cap(g)] {
		g[:cap(g)][i] ^= 0xa5a5a5a5
	}
}

// R2: what is handed in is not changed, and what is told shares no memory with it or with anything else.
func TestNewMemory(t *testing.T) {
	random := rand.New(rand.NewPCG(11, 10))
	for _, p := range []uint64{2, 7, large} {
		for range 30 {
			a, b := some(random, random.IntN(7), p), some(random, random.IntN(7), p)
			kept := copied([]f{a, b})
			l := told(a, b, p)
			if !reflect.DeepEqual(kept, copied([]f{a, b})) {
				t.Fatalf("%d, %d: changed", kept[0], kept[1])
			}
			want := copied(l)
			for i, g := range l {
				spoil(g)
				want[i] = slices.Clone(g)
				if !reflect.DeepEqual(copied(l), want) {
					t.Fatalf("%d, %d: list %d is shared with another one", kept[0], kept[1], i)
				}
			}
		}
	}
}

// R2: a nil list and an empty one are one.
func TestNilAndEmpty(t *testing.T) {
	for _, g := range []f{nil, {}, {1, 1}} {
		first, second := told(g, nil, 3), told(g, f{}, 3)
		for i := range first {
			if !slices.Equal(first[i], second[i]) {
				t.Errorf("%d: list %d", g, i)
			}
		}
	}
}

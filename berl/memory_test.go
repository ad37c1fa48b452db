package berl_test

import (
	"math/rand/v2"
	"reflect"
	"slices"
	"testing"

	"terrace/api"
	"terrace/berl"
)

func copied(l []f) []f {
	r := make([]f, len(l))
	for i, g := range l {
		r[i] = slices.Clone(g)
	}
	return r
}

// spoil writes into all memory of a list, its spare room too.
func spoil(g f) {
	for i := range g[:cap(g)] {
		g[:cap(g)][i] ^= 0xa5a5a5a5
	}
}

// listsTold are the lists that two calls each tell of g.
func listsTold(g f, p uint64) [][]f {
	var lists [][]f
	for range 2 {
		l, _ := berl.Factor(g, p)
		m, _ := berl.Degrees(g, p)
		lists = append(lists, l, m)
	}
	berl.Irreducible(g, p)
	return lists
}

// R2: what is handed in is not changed, and what is told shares no memory with it or with anything else.
func TestNewMemory(t *testing.T) {
	random := rand.New(rand.NewPCG(12, 10))
	for _, p := range []uint64{2, 7, large} {
		for range 30 {
			g := some(random, random.IntN(9), p)
			kept := slices.Clone(g)
			lists := listsTold(g, p)
			if !slices.Equal(g, kept) {
				t.Fatalf("%d: changed", kept)
			}
			all := append(slices.Concat(lists...), g)
			want := copied(all)
			for i, h := range all {
				spoil(h)
				want[i] = slices.Clone(h)
				if !reflect.DeepEqual(copied(all), want) {
					t.Fatalf("%d: list %d is shared with another one", kept, i)
				}
			}
			spareIsOwn(t, lists)
		}
	}
}

// spareIsOwn appends to each list: no other one changes.
func spareIsOwn(t *testing.T, lists [][]f) {
	t.Helper()
	for i, l := range lists {
		for k := range l[:cap(l)] {
			l[:cap(l)][k] = f{uint64(i), uint64(k)}
		}
	}
	for i, l := range lists {
		for k, g := range l[:cap(l)] {
			if !slices.Equal(g, f{uint64(i), uint64(k)}) {
				t.Fatalf("list %d is shared with another one", i)
			}
		}
	}
}

// R2: a nil list and an empty one are one.
func TestNilAndEmpty(t *testing.T) {
	for _, g := range []f{nil, {}} {
		_, e := berl.Factor(g, 3)
		_, d := berl.Degrees(g, 3)
		is, i := berl.Irreducible(g, 3)
		if e != api.ErrModMonic || d != api.ErrModMonic || is || i != api.OK {
			t.Errorf("%d, %d, %v, %d", e, d, is, i)
		}
	}
}

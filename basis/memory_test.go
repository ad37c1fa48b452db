package basis_test

import (
	"cmp"
	"runtime"
	"slices"
	"testing"
	"unsafe"

	"terrace/api"
	"terrace/basis"
)

func copied(l []api.MPoly) []api.MPoly {
	out := make([]api.MPoly, len(l))
	for i, p := range l {
		out[i].Vars = p.Vars
		for _, t := range p.Terms {
			out[i].Terms = append(out[i].Terms, api.Term{Exps: slices.Clone(t.Exps), Coef: long(t.Coef.Neg, slices.Clone(t.Coef.Mag)...)})
		}
	}
	return out
}

// stretch is where a list's memory lies, its spare room too.
type stretch struct{ from, to uintptr }

func stretchOf[T any](l []T) stretch {
	var one T
	from := uintptr(unsafe.Pointer(unsafe.SliceData(l)))
	return stretch{from, from + uintptr(cap(l))*unsafe.Sizeof(one)}
}

func lists() [][]api.MPoly {
	return [][]api.MPoly{
		parseAll(1, "x"), parseAll(2, "x - y", "x - y"), parseAll(2, "x - y", "x + y"), parseAll(2, "x^2 - y^2", "x - y"), parseAll(2, "(x - y)^3(x + y)", "(x + 2y)^2"), parseAll(3, "(x - y)(18446744073709551617xz + 1)", "(18446744073709551617xz + 1)(x + z)^2"),
		parseAll(3, "(x + y)z^3 - (x + y)", "(x + y)(z - 1)"), family(4, 30, "x + y", "z + w"), family(3, 91, "x + y", "x + z"),
	}
}

// R2: what is handed in is not changed, and no two lists share memory, told or handed in; R1: asked again, a call tells
// the same.
func TestNewMemory(t *testing.T) {
	for n, l := range lists() {
		before := copied(l)
		got, e := basis.Make(l, 0)
		again, f := basis.Make(l, 0)
		if e != api.OK || f != api.OK || len(got) == 0 || !slices.EqualFunc(got, again, same) {
			t.Fatalf("%d: errors %d, %d:%s\nthen%s", n, e, f, show(got...), show(again...))
		}
		if !slices.EqualFunc(l, before, same) {
			t.Fatalf("%d: an argument was changed", n)
		}
		memory := []stretch{stretchOf(got), stretchOf(again), stretchOf(l)}
		for _, p := range slices.Concat(got, again, distinct(l)) {
			memory = append(memory, stretchOf(p.Terms))
			for _, u := range p.Terms {
				memory = append(memory, stretchOf(u.Exps), stretchOf(u.Coef.Mag))
			}
		}
		memory = slices.DeleteFunc(memory, func(s stretch) bool { return s.from == s.to })
		slices.SortFunc(memory, func(x, y stretch) int { return cmp.Compare(x.from, y.from) })
		for i := 1; i < len(memory); i++ {
			if memory[i].from < memory[i-1].to {
				t.Fatalf("%d: two lists share memory", n)
			}
		}
		runtime.KeepAlive(l)
	}
}

// distinct leaves out what is the same memory.
func distinct(l []api.MPoly) []api.MPoly {
	return slices.CompactFunc(slices.Clone(l), func(p, q api.MPoly) bool { return &p.Terms[0] == &q.Terms[0] })
}

// R2: the spare room of what is handed in is neither written nor read, its lists may share memory, and an empty list is
// a nil one.
func TestSpareRoomOfArguments(t *testing.T) {
	room, exps := api.Nat{4, 3, 5, 9}, []int{1, 0, 2, 7}
	terms := []api.Term{{Exps: exps[1:3], Coef: api.Int{Mag: room[0:2]}}, {Exps: exps[0:2], Coef: api.Int{Mag: room[0:1]}}, {Exps: exps[2:4]}}
	p := api.MPoly{Vars: 2, Terms: terms[:2]}
	list := []api.MPoly{p, p, {Vars: 2, Terms: terms[1:2]}, {Vars: -5}}[:3]
	fresh := copied(list)
	for v := range 2 {
		got, e := basis.Make(list, v)
		want, f := basis.Make(fresh, v)
		if e != api.OK || f != api.OK || !slices.EqualFunc(got, want, same) {
			t.Errorf("spare room counts: %d, %d", e, f)
		}
	}
	if !slices.Equal(room, api.Nat{4, 3, 5, 9}) || !slices.Equal(exps, []int{1, 0, 2, 7}) || len(terms[2].Coef.Mag) > 0 || list[:4][3].Vars != -5 {
		t.Error("spare room was written")
	}
}

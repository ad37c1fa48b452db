package chain_test

import (
	"cmp"
	"runtime"
	"slices"
	"testing"
	"unsafe"

	"terrace/api"
	"terrace/chain"
)

// tell lists all that the calls tell of a and b, each asked twice, and a and b themselves.
func tell(a, b api.MPoly) []api.MPoly {
	all := []api.MPoly{a, b}
	keep := func(p api.MPoly, _ api.Errno) { all = append(all, p) }
	for range 2 {
		for v := range a.Vars {
			for j := range 3 {
				keep(chain.Psc(a, b, v, j))
				keep(chain.Sub(a, b, v, j))
				keep(chain.Sub(b, a, v, j))
			}
			keep(chain.Res(a, b, v))
			keep(chain.Disc(a, v))
			keep(chain.Disc(b, v))
		}
	}
	return all
}

func copied(p api.MPoly) api.MPoly {
	q := api.MPoly{Vars: p.Vars}
	for _, t := range p.Terms {
		q.Terms = append(q.Terms, api.Term{Exps: slices.Clone(t.Exps), Coef: long(t.Coef.Neg, slices.Clone(t.Coef.Mag)...)})
	}
	return q
}

// stretch is where a list's memory lies, its spare room too.
type stretch struct{ from, to uintptr }

func stretchOf[T any](l []T) stretch {
	var one T
	from := uintptr(unsafe.Pointer(unsafe.SliceData(l)))
	return stretch{from, from + uintptr(cap(l))*unsafe.Sizeof(one)}
}

func pairs() [][2]api.MPoly {
	return [][2]api.MPoly{
		{parse(0, "6"), parse(0, "-4")}, {parse(1, "0"), parse(1, "x - 3")}, {parse(2, "5"), parse(2, "x^2 - y")}, {parse(2, "x - y"), parse(2, "x - y")}, {parse(2, "y - x"), parse(2, "y^2 - x^2 + 1")}, {parse(2, "x^3y"), parse(2, "x^3y^2")},
		{parse(3, "(x - y)(18446744073709551617z + 1)"), parse(3, "(18446744073709551617z + 1)(x + z)^2 - 1")}, {parse(2, "340282366920938463463374607431768211457x^2 + y"), parse(2, "x - 1")}, {parse(1, "x^3 + 7x + 1"), parse(1, "x^2 + 3")},
		{parse(2, "(x + 2y + 3)^9 - 1"), parse(2, "(3x - y + 5)^8 - 7")}, {parse(3, "(x + y)((x + z)^5 - y - 7)"), parse(3, "(x + y)((x - y)^5 - 3z^2)")},
	}
}

// R2: what is handed in is not changed, and no two lists share memory, told or handed in; R1: asked again, a call tells
// the same.
func TestNewMemory(t *testing.T) {
	for n, c := range pairs() {
		a, b := copied(c[0]), copied(c[1])
		all := tell(a, b)
		if !same(a, c[0]) || !same(b, c[1]) {
			t.Fatalf("%d: an argument was changed", n)
		}
		for i, half := 2, (len(all)-2)/2; i < 2+half; i++ {
			if !same(all[i], all[i+half]) {
				t.Errorf("%d: %s, then%s", n, show(all[i]), show(all[i+half]))
			}
		}
		var memory []stretch
		for _, p := range all {
			memory = append(memory, stretchOf(p.Terms))
			for _, u := range p.Terms {
				memory = append(memory, stretchOf(u.Exps), stretchOf(u.Coef.Mag))
			}
		}
		memory = slices.DeleteFunc(memory, func(s stretch) bool { return s.from == s.to })
		slices.SortFunc(memory, func(x, y stretch) int { return cmp.Compare(x.from, y.from) })
		for i := 1; i < len(memory); i++ {
			if memory[i].from < memory[i-1].to {
				t.Fatalf("%d: two lists share memory", n)
			}
		}
		runtime.KeepAlive(all)
	}
}

// R2: the spare room of what is handed in is neither written nor read, its lists may share memory, and an empty list is
// a nil one.
func TestSpareRoomOfArguments(t *testing.T) {
	room, exps := api.Nat{4, 3, 5, 9}, []int{1, 0, 2, 7}
	terms := []api.Term{{Exps: exps[1:3], Coef: api.Int{Mag: room[0:2]}}, {Exps: exps[0:2], Coef: api.Int{Mag: room[0:1]}}, {Exps: exps[2:4]}}
	a := api.MPoly{Vars: 2, Terms: terms[:2]}
	b, c := copied(a), parse(2, "x^2 - xy + y^2 + 3")
	if !slices.EqualFunc(tell(a, c), tell(b, c), same) || !slices.EqualFunc(tell(c, a), tell(c, b), same) {
		t.Error("spare room counts")
	}
	if !slices.Equal(room, api.Nat{4, 3, 5, 9}) || !slices.Equal(exps, []int{1, 0, 2, 7}) || len(terms[2].Coef.Mag) > 0 {
		t.Error("spare room was written")
	}
	empty := api.MPoly{Vars: 1, Terms: []api.Term{}}
	if !slices.EqualFunc(tell(empty, parse(1, "x")), tell(api.MPoly{Vars: 1}, parse(1, "x")), same) {
		t.Error("an empty list counts")
	}
}

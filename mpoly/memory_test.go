package mpoly_test

import (
	"cmp"
	"reflect"
	"runtime"
	"slices"
	"testing"
	"unsafe"

	"terrace/api"
	"terrace/big"
	"terrace/mpoly"
)

// told is all that the calls tell of p, q and a, and these themselves.
type told struct {
	polys []api.MPoly
	lists [][]api.MPoly
	unis  []api.Poly
	rats  []api.Rat
}

func tell(p, q api.MPoly, a api.Rat) told {
	one := func(p api.MPoly, _ api.Errno) api.MPoly { return p }
	mpoly.Cmp(p, q)
	mpoly.Level(p)
	c := api.Int{Neg: a.Num.Neg, Mag: a.Num.Mag}
	all := told{rats: []api.Rat{a}}
	all.polys = []api.MPoly{
		one(mpoly.Add(p, q)), one(mpoly.Add(q, p)), one(mpoly.Sub(p, q)), one(mpoly.Mul(p, q)), one(mpoly.Mul(p, q)), one(mpoly.Neg(p)), one(mpoly.Neg(p)),
		one(mpoly.Prim(p)), one(mpoly.Prim(p)), one(mpoly.Const(p.Vars, c)), one(mpoly.Const(p.Vars, c)), p, q,
	}
	for v := range p.Vars {
		l, _ := mpoly.Coefs(p, v)
		again, _ := mpoly.Coefs(p, v)
		all.lists = append(all.lists, l, again)
		all.polys = append(all.polys, one(mpoly.Var(p.Vars, v)), one(mpoly.Of(l, v)), one(mpoly.Of(l, v)), one(mpoly.Der(p, v)), one(mpoly.Der(p, v)), one(mpoly.Put(p, v, a)), one(mpoly.Put(p, v, a)))
		u, _, _ := mpoly.Uni(p, v)
		w, _, _ := mpoly.Uni(p, v)
		all.unis = append(all.unis, u, w)
	}
	point := make([]api.Rat, p.Vars)
	for v := range point {
		point[v] = a
	}
	x, _ := mpoly.Eval(p, point)
	y, _ := mpoly.Eval(p, point)
	all.rats = append(all.rats, x, y)
	return all
}

// copied copies all memory but spare room; empty lists become nil ones.
func (x told) copied() told {
	var c told
	number := func(a api.Int) api.Int { return api.Int{Neg: a.Neg, Mag: append(api.Nat(nil), a.Mag...)} }
	one := func(p api.MPoly) api.MPoly {
		q := api.MPoly{Vars: p.Vars}
		for _, t := range p.Terms {
			q.Terms = append(q.Terms, api.Term{Exps: append([]int(nil), t.Exps...), Coef: number(t.Coef)})
		}
		return q
	}
	for _, p := range x.polys {
		c.polys = append(c.polys, one(p))
	}
	for _, l := range x.lists {
		var m []api.MPoly
		for _, p := range l {
			m = append(m, one(p))
		}
		c.lists = append(c.lists, m)
	}
	for _, u := range x.unis {
		var w api.Poly
		for _, a := range u {
			w = append(w, number(a))
		}
		c.unis = append(c.unis, w)
	}
	for _, a := range x.rats {
		c.rats = append(c.rats, api.Rat{Num: number(a.Num), Den: append(api.Nat(nil), a.Den...)})
	}
	return c
}

// stretch is where a list's memory lies, its spare room too.
type stretch struct{ from, to uintptr }

func stretchOf[T any](l []T) stretch {
	var one T
	from := uintptr(unsafe.Pointer(unsafe.SliceData(l)))
	return stretch{from, from + uintptr(cap(l))*unsafe.Sizeof(one)}
}

// stretches tells where each list of x lies.
func (x told) stretches() []stretch {
	var all []stretch
	one := func(p api.MPoly) {
		all = append(all, stretchOf(p.Terms))
		for _, t := range p.Terms {
			all = append(all, stretchOf(t.Exps), stretchOf(t.Coef.Mag))
		}
	}
	for _, p := range x.polys {
		one(p)
	}
	for _, l := range x.lists {
		all = append(all, stretchOf(l))
		for _, p := range l {
			one(p)
		}
	}
	for _, u := range x.unis {
		all = append(all, stretchOf(u))
		for _, a := range u {
			all = append(all, stretchOf(a.Mag))
		}
	}
	for _, a := range x.rats {
		all = append(all, stretchOf(a.Num.Mag), stretchOf(a.Den))
	}
	return slices.DeleteFunc(all, func(s stretch) bool { return s.from == s.to })
}

func samples() []api.MPoly {
	return []api.MPoly{
		{}, {Vars: 2}, parse(0, "-4"), parse(1, "x"), parse(2, "3"), parse(2, "2x - 4y"), parse(2, "x^2 - y^2 + xy - 18446744073709551617"), parse(3, "z^2 + 340282366920938463463374607431768211457y - 6x"), parse(1, "3x^3 - 3"),
	}
}

// R2: what is handed in is not changed, and no two lists share memory, told or handed in.
func TestNewMemory(t *testing.T) {
	for n, p := range samples() {
		q, a := modelSum(p, p, 2).made(p.Vars), api.Rat{Num: long(true, 7, 1), Den: api.Nat{3}}
		q.Terms = q.Terms[:len(q.Terms)/2] // some of p's terms meet others, some none
		kept := told{polys: []api.MPoly{p, q}, rats: []api.Rat{a}}.copied()
		all := tell(p, q, a)
		if !reflect.DeepEqual(told{polys: []api.MPoly{p, q}, rats: []api.Rat{a}}.copied(), kept) {
			t.Fatalf("%d: an argument was changed", n)
		}
		memory := all.stretches()
		slices.SortFunc(memory, func(x, y stretch) int { return cmp.Compare(x.from, y.from) })
		for i := 1; i < len(memory); i++ {
			if memory[i].from < memory[i-1].to {
				t.Fatalf("%d: two lists share memory", n)
			}
		}
		runtime.KeepAlive(all)
	}
}

// R2: the spare room of what is handed in is neither written nor read, its lists may share memory, and an empty list
// is a nil one.
func TestSpareRoomOfArguments(t *testing.T) {
	room, exps := api.Nat{4, 3, 5, 9}, []int{1, 0, 2, 7}
	terms := []api.Term{{Exps: exps[1:3], Coef: api.Int{Mag: room[0:2]}}, {Exps: exps[0:2], Coef: api.Int{Mag: room[0:1]}}, {Exps: exps[2:4]}}
	p := api.MPoly{Vars: 2, Terms: terms[:2]}
	q := told{polys: []api.MPoly{p}}.copied().polys[0]
	a, b := api.Rat{Num: api.Int{Mag: room[0:1]}, Den: room[2:3]}, api.Rat{Num: big.From(4), Den: api.Nat{5}}
	if got, want := tell(p, p, a), tell(q, q, b); !reflect.DeepEqual(got.copied(), want.copied()) {
		t.Error("spare room counts")
	}
	if !reflect.DeepEqual(room, api.Nat{4, 3, 5, 9}) || !reflect.DeepEqual(exps, []int{1, 0, 2, 7}) || len(terms[2].Coef.Mag) > 0 {
		t.Error("spare room was written")
	}
	empty := api.MPoly{Vars: 0, Terms: []api.Term{{Exps: []int{}, Coef: big.From(3)}}}
	zero := api.Rat{Num: api.Int{Mag: api.Nat{}}, Den: api.Nat{1}}
	got, want := tell(empty, api.MPoly{Terms: []api.Term{}}, zero), tell(parse(0, "3"), api.MPoly{}, api.Rat{Den: api.Nat{1}})
	if !reflect.DeepEqual(got.copied(), want.copied()) {
		t.Error("an empty list is not a nil one")
	}
}

package mpoly_test

import (
	mathbig "math/big"
	"math/rand/v2"
	"testing"

	"terrace/api"
	"terrace/big"
	"terrace/mpoly"
	"terrace/poly"
)

func holdDeg(t *testing.T, p api.MPoly, v, want int) {
	t.Helper()
	if d, e := mpoly.Deg(p, v); d != want || e != api.OK {
		t.Errorf("Deg of%s by %d: %d, %d, want %d", show(p), v, d, e, want)
	}
}

func holdLevel(t *testing.T, p api.MPoly, want int) {
	t.Helper()
	if n, e := mpoly.Level(p); n != want || e != api.OK {
		t.Errorf("Level of%s: %d, %d, want %d", show(p), n, e, want)
	}
}

// P7.3: degrees, wherever in the order the greatest exponent stands, and levels.
func TestDegLevel(t *testing.T) {
	p := parse(4, "z^2 + x^7yz - y^9 + x^3 + 5")
	for v, d := range []int{7, 9, 2, 0} {
		holdDeg(t, p, v, d)
		holdDeg(t, api.MPoly{Vars: 4}, v, -1)
		holdDeg(t, parse(4, "-6"), v, 0)
	}
	holdLevel(t, p, 3)
	holdLevel(t, parse(4, "w + x"), 4)
	holdLevel(t, parse(4, "x^1024"), 1)
	holdLevel(t, parse(4, "y - 1"), 2)
	holdLevel(t, parse(4, "8"), 0)
	for n := range api.MaxVars + 1 {
		holdLevel(t, api.MPoly{Vars: n}, 0)
		for v := range n {
			holdLevel(t, lone(n, -2, v, 3), v+1)
			holdDeg(t, lone(n, -2, v, api.MaxDeg), v, api.MaxDeg)
		}
	}
}

// P7.3: coefficients by each variable; of 0 there are none.
func TestCoefs(t *testing.T) {
	r := rand.New(rand.NewPCG(7, 4))
	for i := range 600 {
		n := 1 + i%api.MaxVars
		p, v := random(r, n, 8, 3), r.IntN(n)
		want := map[int]model{}
		for k, c := range taken(p) {
			e := k[v]
			if k[v] = 0; want[e] == nil {
				want[e] = model{}
			}
			want[e].add(k, c)
		}
		l, e := mpoly.Coefs(p, v)
		d, _ := mpoly.Deg(p, v)
		if e != api.OK || len(l) != d+1 {
			t.Fatalf("Coefs of%s by %d: %d of them, %d", show(p), v, len(l), e)
		}
		for e, q := range l {
			held(t, "Coefs of"+show(p), want[e].made(n))(q, api.OK)
		}
		if len(l) > 0 {
			held(t, "Of", p)(mpoly.Of(l, v))
		}
	}
	for v := range 3 {
		if l, e := mpoly.Coefs(api.MPoly{Vars: 3}, v); len(l) != 0 || e != api.OK {
			t.Errorf("Coefs of 0: %v, %d", l, e)
		}
	}
}

// P7.3, P7.5: Of and Coefs undo each other, noughts at the upper end apart.
func TestOf(t *testing.T) {
	r := rand.New(rand.NewPCG(7, 5))
	for i := range 600 {
		n := 1 + i%api.MaxVars
		v, m := r.IntN(n), model{}
		l := make([]api.MPoly, 1+r.IntN(5))
		for e := range l {
			low := model{}
			for k, c := range taken(random(r, n, 4, 3)) {
				k[v] = 0
				low.add(k, c)
				k[v] = e
				m.add(k, c)
			}
			l[e] = low.made(n)
		}
		p := m.made(n)
		held(t, "Of", p)(mpoly.Of(l, v))
		back, _ := mpoly.Coefs(p, v)
		for e, q := range l {
			if e < len(back) && !same(back[e], q) || e >= len(back) && len(q.Terms) > 0 {
				t.Fatalf("Coefs of Of:%s by %d", show(p), v)
			}
		}
	}
	held(t, "Of noughts", api.MPoly{Vars: 2})(mpoly.Of([]api.MPoly{{Vars: 2}, {Vars: 2}}, 1))
	held(t, "Of a nought", parse(2, "xy"))(mpoly.Of([]api.MPoly{{Vars: 2}, parse(2, "x"), {Vars: 2}}, 1))
}

// P7.3: what Of refuses, one error ahead of the other.
func TestOfRefuses(t *testing.T) {
	x, y := parse(2, "x"), parse(2, "y")
	bad := none()[5]
	refused(t, "none", api.ErrMPolyVars)(mpoly.Of(nil, 0))
	refused(t, "none", api.ErrMPolyVars)(mpoly.Of([]api.MPoly{}, -3))
	refused(t, "unlike", api.ErrMPolyVars)(mpoly.Of([]api.MPoly{x, parse(1, "1")}, 1))
	refused(t, "no form last", api.ErrMPolyForm)(mpoly.Of([]api.MPoly{x, parse(1, "1"), bad}, 7))
	refused(t, "deg", api.ErrMPolyForm)(mpoly.Of([]api.MPoly{y}, 1))
	refused(t, "deg", api.ErrMPolyForm)(mpoly.Of([]api.MPoly{x, x, parse(2, "1"), parse(2, "y^2 + x")}, 1))
	refused(t, "vars ahead of deg", api.ErrMPolyVars)(mpoly.Of([]api.MPoly{y, x, parse(3, "x")}, 1))
	refused(t, "v ahead of deg", api.ErrMPolyVars)(mpoly.Of([]api.MPoly{y, x}, 2))
	l := make([]api.MPoly, api.MaxDeg+2)
	for i := range l {
		l[i].Vars = 2
	}
	l[api.MaxDeg] = x
	held(t, "the longest", parse(2, "xy^1024"))(mpoly.Of(l[:api.MaxDeg+1], 1))
	refused(t, "too long", api.ErrMPolyForm)(mpoly.Of(l, 1))
	refused(t, "too long, v", api.ErrMPolyVars)(mpoly.Of(l, 2))
	l[0] = api.MPoly{Vars: 3}
	refused(t, "too long, unlike", api.ErrMPolyVars)(mpoly.Of(l, 1))
	row := grid(2, 1024, 1, ones)
	held(t, "the most", grid(2, 1024, 4, ones))(mpoly.Of([]api.MPoly{row, row, row, row}, 1))
	refused(t, "too many", api.ErrMPolyForm)(mpoly.Of([]api.MPoly{row, row, parse(2, "1"), row, row}, 1))
}

// P7.3: derivatives by each variable.
func TestDer(t *testing.T) {
	r := rand.New(rand.NewPCG(7, 6))
	for i := range 500 {
		n := 1 + i%api.MaxVars
		p, v, want := random(r, n, 8, 4), r.IntN(n), model{}
		for k, c := range taken(p) {
			if e := k[v]; e > 0 {
				k[v]--
				want.add(k, c.Mul(c, mathbig.NewInt(int64(e))))
			}
		}
		held(t, "Der"+show(p), want.made(n))(mpoly.Der(p, v))
	}
	held(t, "Der", lone(2, 3*api.MaxDeg, 1, api.MaxDeg-1))(mpoly.Der(lone(2, 3, 1, api.MaxDeg), 1))
	held(t, "Der", api.MPoly{Vars: 2})(mpoly.Der(parse(2, "y^3 - 4"), 0))
	held(t, "Der", api.MPoly{Vars: 2})(mpoly.Der(api.MPoly{Vars: 2}, 0))
}

// P7.4: Uni tells a polynomial in v alone; constants are ones in each variable.
func TestUni(t *testing.T) {
	for _, c := range []struct {
		p    string
		v    int
		is   bool
		want []int64
	}{
		{"", 0, true, nil}, {"", 2, true, nil}, {"-7", 1, true, []int64{-7}}, {"x^2 - 2", 0, true, []int64{-2, 0, 1}}, {"x^2 - 2", 1, false, nil}, {"4y^3 - y", 1, true, []int64{0, -1, 0, 4}},
		{"z", 2, true, []int64{0, 1}}, {"z", 1, false, nil}, {"z + x", 2, false, nil}, {"z + x", 0, false, nil}, {"xy", 0, false, nil}, {"x + y - 1", 2, false, nil},
	} {
		var want api.Poly
		for _, n := range c.want {
			want = append(want, big.From(n))
		}
		u, is, e := mpoly.Uni(parse(3, c.p), c.v)
		if e != api.OK || is != c.is || poly.Check(u) != api.OK || len(u) != len(want) || poly.Cmp(u, want) != 0 {
			t.Errorf("%s: %v, %t, %d", c.p, u, is, e)
		}
	}
	u, is, e := mpoly.Uni(lone(8, 5, 3, api.MaxDeg), 3)
	if e != api.OK || !is || len(u) != api.MaxDeg+1 || big.Text(u[api.MaxDeg]) != "5" {
		t.Errorf("the highest: %d, %t, %d", len(u), is, e)
	}
}

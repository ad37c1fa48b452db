package chain

import (
	mathbig "math/big"
	"math/rand/v2"
	"slices"
	"testing"

	"terrace/api"
	"terrace/big"
	"terrace/mpoly"
	"terrace/residue"
)

// random makes a polynomial in n variables of at most so many terms, such exponents, and such numbers.
func random(r *rand.Rand, n, terms, most int, size int64) api.MPoly {
	p := api.MPoly{Vars: n}
	for range terms {
		exps := make([]int, n)
		for v := range n {
			exps[v] = r.IntN(most + 1)
		}
		if c := r.Int64N(2*size+1) - size; c != 0 {
			p, _ = mpoly.Add(p, api.MPoly{Vars: n, Terms: []api.Term{{Exps: exps, Coef: big.From(c)}}})
		}
	}
	return p
}

func same(a, b sum) bool {
	return slices.EqualFunc(a, b, func(t, u term) bool { return t.at == u.at && big.Cmp(t.coef, u.coef) == 0 })
}

// questions tells all that may be asked about a and b by v.
func questions(a, b api.MPoly, v int) []*question {
	if len(a.Terms) == 0 || len(b.Terms) == 0 {
		return nil
	}
	var list []*question
	m, _ := mpoly.Deg(a, v)
	n, _ := mpoly.Deg(b, v)
	for j := range min(m, n) + 1 {
		if j < m || j < n {
			list = append(list, pose(single, a, b, v, j), pose(every, a, b, v, j))
		}
	}
	if m > 0 {
		d, _ := mpoly.Der(a, v)
		list = append(list, pose(disc, a, d, v, 0))
	}
	return list
}

// TestMono: products, quotients and order are those of the exponents one by one, up to what they may be on the way.
func TestMono(t *testing.T) {
	r := rand.New(rand.NewPCG(9, 20))
	for range 2000 {
		most := []int{1, 3, 1 << 10, 1 << 23}[r.IntN(4)]
		var m, n mono
		var d, e [api.MaxVars]int
		above, below := false, false
		for v := range d {
			d[v], e[v] = r.IntN(most+1), r.IntN(most+1)
			m, n = m.times(power(v, d[v])), n.times(power(v, e[v]))
			if d[v] != e[v] {
				above, below = d[v] > e[v], d[v] < e[v]
			}
		}
		for v := range d {
			if m.exp(v) != d[v] || m.times(n).exp(v) != d[v]+e[v] || m.times(n).over(n) != m || m.without(v).times(power(v, d[v])) != m {
				t.Fatalf("%v, %v: variable %d", d, e, v)
			}
		}
		if m.above(&n) != above || n.above(&m) != below || m.above(&m) {
			t.Fatalf("%v, %v: %t", d, e, m.above(&n))
		}
	}
}

func out(a api.Int) *mathbig.Int {
	n := new(mathbig.Int)
	for _, limb := range slices.Backward(a.Mag) {
		n.Lsh(n, 64).Or(n, new(mathbig.Int).SetUint64(limb))
	}
	if a.Neg {
		n.Neg(n)
	}
	return n
}

// TestAccount: sums of products of short and long numbers, of both signs, that are 0 too.
func TestAccount(t *testing.T) {
	r := rand.New(rand.NewPCG(9, 21))
	number := func() api.Int {
		a := api.Int{Neg: r.IntN(2) == 0, Mag: api.Nat{r.Uint64() | 1}}
		for r.IntN(4) == 0 {
			a.Mag = append(a.Mag, r.Uint64()|1)
		}
		return a
	}
	var s account
	for i := range 500 {
		want := new(mathbig.Int)
		var list []pairOfNumbers
		for range r.IntN(40) {
			list = append(list, pairOfNumbers{number(), number(), r.IntN(2) == 0})
		}
		if i%3 == 0 { // all is taken away again
			for _, p := range slices.Clone(list) {
				list = append(list, pairOfNumbers{p.b, p.a, !p.minus})
			}
		}
		for _, p := range list {
			s.add(p.a, p.b, p.minus)
			product := new(mathbig.Int).Mul(out(p.a), out(p.b))
			if p.minus {
				product.Neg(product)
			}
			want.Add(want, product)
		}
		if got := s.total(); big.Check(got) != api.OK || out(got).Cmp(want) != 0 {
			t.Fatalf("%v, want %v", out(got), want)
		}
	}
}

type pairOfNumbers struct {
	a, b  api.Int
	minus bool
}

// TestRatio: sums of products, divided, are what mpoly's calls make of them.
func TestRatio(t *testing.T) {
	r := rand.New(rand.NewPCG(9, 22))
	w := &work{1 << 40}
	for range 1500 {
		n := 1 + r.IntN(4)
		a, b, c, d := random(r, n, 5, 3, 5), random(r, n, 5, 3, 5), random(r, n, 5, 3, 5), random(r, n, 5, 3, 5)
		by := random(r, n, 4, 2, 5)
		if len(by.Terms) == 0 {
			continue
		}
		x, _ := mpoly.Mul(a, b)
		y, _ := mpoly.Mul(c, d)
		want, _ := mpoly.Sub(x, y)
		a, _ = mpoly.Mul(a, by)
		d, _ = mpoly.Mul(by, d)
		if got := w.ratio(read(by), pair{a: read(a), b: read(b)}, pair{a: read(c), b: read(d), minus: true}); !same(got, read(want)) {
			t.Fatalf("%v, want %v", got, want)
		}
	}
}

// TestTired: work stops where no more is allowed, and the next try does not know of it.
func TestTired(t *testing.T) {
	r := rand.New(rand.NewPCG(9, 23))
	q := pose(single, random(r, 3, 30, 3, 9), random(r, 3, 30, 3, 9), 0, 0)
	for limit := 1; ; limit *= 2 {
		s, ok := q.eliminated(limit)
		if ok {
			if limit < 100 || len(s) < 100 {
				t.Errorf("%d terms by %d", len(s), limit)
			}
			break
		}
		if s != nil {
			t.Fatal("something is told")
		}
	}
}

// TestBothWays: elimination and images tell the same of all that may be asked, and keep to the bounds.
func TestBothWays(t *testing.T) {
	r := rand.New(rand.NewPCG(9, 24))
	tight, loose := 0, 0
	for i := range 1200 {
		vars, most := 1+i%4, 1+i%4
		a, b := random(r, vars, 1+r.IntN(6), most, 3), random(r, vars, 1+r.IntN(6), most, 3)
		for _, q := range questions(a, b, r.IntN(vars)) {
			want, ok := q.eliminated(1 << 40)
			if got := q.grid().found(); !ok || !same(got, want) {
				t.Fatalf("%v and %v by %d, %d, %d: %v, want %v", a, b, q.v, q.j, q.kind, got, want)
			}
			for _, u := range want {
				if big.Len(u.coef) > q.bits() {
					t.Fatalf("%v and %v by %d, %d, %d: above %d bits", a, b, q.v, q.j, q.kind, q.bits())
				}
			}
			for u := range vars {
				if u == q.v || len(want) == 0 {
					continue
				}
				switch d := want.degree(u) - q.degree(u); {
				case d > 0:
					t.Fatalf("%v and %v by %d, %d, %d: above the degree %d in %d", a, b, q.v, q.j, q.kind, q.degree(u), u)
				case d == 0:
					tight++
				default:
					loose++
				}
			}
		}
	}
	if loose > tight/5 {
		t.Errorf("%d bounds of %d are loose", loose, loose+tight)
	}
}

// TestImages: of whatever coefficients, the first ones 0 too, an image is the determinant of what stands there.
func TestImages(t *testing.T) {
	var stock residue.Primes
	f := modulo(stock.Next(), most)
	r := rand.New(rand.NewPCG(9, 25))
	number := func() uint64 { return f.Of(big.From(int64(r.IntN(3) - 1))) }
	for range 3000 {
		a, b := make([]uint64, 1+r.IntN(6)), make([]uint64, 1+r.IntN(6))
		for i := range a {
			a[i] = number()
		}
		for i := range b {
			b[i] = number()
		}
		m, n := len(a)-1, len(b)-1
		j := r.IntN(min(m, n) + 1)
		if j == m && j == n {
			continue
		}
		got := f.subresultant(slices.Clone(a), slices.Clone(b), j)
		for i := range got {
			if want := f.determinant(f.cells(a, b, j, i)); got[i] != want {
				t.Fatalf("%v, %v, %d, %d: %d, want %d", a, b, j, i, got[i], want)
			}
		}
	}
	long := func(n int) []uint64 { // so that divisions go by inverses
		a := make([]uint64, n)
		for i := range a {
			a[i] = f.Of(api.Int{Mag: api.Nat{r.Uint64() | 1}})
		}
		return a
	}
	for range 20 {
		a, b := long(20+r.IntN(20)), long(20+r.IntN(20))
		j := r.IntN(19)
		got := f.subresultant(slices.Clone(a), slices.Clone(b), j)
		for _, i := range []int{0, j / 2, j} {
			if want := f.determinant(f.cells(a, b, j, i)); got[i] != want {
				t.Fatalf("%d and %d, %d, %d: %d, want %d", len(a), len(b), j, i, got[i], want)
			}
		}
	}
}

// cells tells M_j,i.
func (f field) cells(a, b []uint64, j, i int) [][]uint64 {
	m, n := len(a)-1, len(b)-1
	var rows [][]uint64
	lay := func(p []uint64, many int) {
		for r := range many {
			row := make([]uint64, m+n-j)
			for e, c := range p {
				row[r+len(p)-1-e] = c
			}
			rows = append(rows, append(row[:m+n-2*j-1:m+n-2*j-1], row[m+n-j-1-i]))
		}
	}
	lay(a, n-j)
	lay(b, m-j)
	return rows
}

// determinant goes by Gauss' way.
func (f field) determinant(rows [][]uint64) uint64 {
	det := f.One()
	for c := range rows {
		p := c
		for p < len(rows) && rows[p][c] == 0 {
			p++
		}
		if p == len(rows) {
			return 0
		}
		if p != c {
			rows[p], rows[c] = rows[c], rows[p]
			det = f.Minus(0, det)
		}
		det = f.Times(det, rows[c][c])
		inverse := f.Inverse(rows[c][c])
		for r := c + 1; r < len(rows); r++ {
			f.takeOut(rows[r], rows[c], f.Times(rows[r][c], inverse))
		}
	}
	return det
}

// TestOrder: an odd number of swaps is told from an even one.
func TestOrder(t *testing.T) {
	r := rand.New(rand.NewPCG(9, 26))
	for range 300 {
		order := r.Perm(r.IntN(9))
		odd := false
		for i := range order {
			for k := range i {
				odd = odd != (order[k] > order[i])
			}
		}
		if isOdd(order) != odd {
			t.Fatal(order)
		}
	}
}

// TestBlocks: blocks have all rows and columns together, whatever the stride.
func TestBlocks(t *testing.T) {
	r := rand.New(rand.NewPCG(9, 27))
	for range 300 {
		for _, q := range questions(random(r, 1, 3, 9, 3), random(r, 1, 3, 9, 3), 0) {
			stride := q.stride()
			var all block
			for class := range stride {
				b := q.block(class, stride)
				all.ofA += b.ofA
				all.ofB += b.ofB
				all.fixed += b.fixed
				all.open += b.open
			}
			if all.ofA != q.rowsOfA() || all.ofB != q.rowsOfB() || all.fixed != q.rows()-1 || all.open != q.open() {
				t.Fatalf("%v of %v and %v", all, q.polys[0], q.polys[1])
			}
		}
	}
}

// short makes z - p and z + q, whose resultant is p + q, in the variables x, y, z.
func short(p, q api.MPoly) *question {
	z, _ := mpoly.Var(3, 2)
	a, _ := mpoly.Sub(z, p)
	b, _ := mpoly.Add(z, q)
	return pose(single, a, b, 2, 0)
}

// plane makes terms x^i y^k, from the m-th to below the n-th, exponents being multiples of step.
func plane(m, n, step int) api.MPoly {
	p := api.MPoly{Vars: 3}
	for i := n - 1; i >= m; i-- {
		p.Terms = append(p.Terms, api.Term{Exps: []int{step * (i % 70), step * (i / 70), 0}, Coef: big.From(int64(i%5 + 1))})
	}
	return p
}

// TestProofs: that an answer has too many terms, or too high an exponent, is shown where it has, and never where it has
// not, even if it has as many as may be.
func TestProofs(t *testing.T) {
	for _, c := range []struct {
		n    int
		many bool
	}{{10, false}, {api.MaxTerms, false}, {api.MaxTerms + 1, true}, {2*api.MaxTerms - 4, true}} {
		q := short(plane(0, c.n/2, 1), plane(c.n/2, c.n, 1))
		if got := q.spot().hasTooMany(); got != c.many {
			t.Errorf("%d terms: %t", c.n, got)
		}
	}
	for _, e := range []int{1, api.MaxDeg / 3, api.MaxDeg/3 + 1, api.MaxDeg} {
		// The resultant of 3 x^e y^7 z + 1 and x^e z^2 + y z + 2 x^e has the degree 3 e in x.
		a := api.MPoly{Vars: 3, Terms: []api.Term{{Exps: []int{e, 7, 1}, Coef: big.From(3)}, {Exps: []int{0, 0, 0}, Coef: big.From(1)}}}
		b := api.MPoly{Vars: 3, Terms: []api.Term{{Exps: []int{e, 0, 2}, Coef: big.From(1)}, {Exps: []int{0, 1, 1}, Coef: big.From(1)}, {Exps: []int{e, 0, 0}, Coef: big.From(2)}}}
		s := pose(single, a, b, 2, 0).spot()
		if got := s.isTooHigh(0); got != (3*e > api.MaxDeg) || s.isTooHigh(1) {
			t.Errorf("exponent %d: %t", e, got)
		}
	}
	edge := pose(single, api.MPoly{Vars: 2, Terms: []api.Term{{Exps: []int{512, 1}, Coef: big.From(1)}, {Exps: []int{0, 0}, Coef: big.From(-1)}}}, api.MPoly{Vars: 2, Terms: []api.Term{{Exps: []int{0, 2}, Coef: big.From(1)}, {Exps: []int{0, 0}, Coef: big.From(1)}}}, 1, 0)
	if edge.spot().isTooHigh(0) {
		t.Error("MaxDeg is too high")
	}
	zero := short(plane(0, 9, 1), api.MPoly{Vars: 3, Terms: nil})
	zero.a = zero.b
	if s := zero.spot(); s.hasTooMany() || s.isTooHigh(0) || !s.isCommon() {
		t.Error("0 is too long, or not 0")
	}
}

// TestLimitsInTurn: no proof is tried ahead of its turn, and none twice.
func TestLimitsInTurn(t *testing.T) {
	tried := 0
	l := &limits{left: []proof{{10, func() bool { tried++; return false }}, {100, func() bool { tried++; return true }}}}
	for i, c := range []struct {
		cost, tried int
		want        bool
	}{{9, 0, false}, {10, 1, false}, {99, 1, false}, {1000, 2, true}} {
		if got := l.areExceeded(c.cost); got != c.want || tried != c.tried {
			t.Errorf("%d: %t after %d", i, got, tried)
		}
	}
}

// TestSpots: spots hang on all that is asked, and are the same each time.
func TestSpots(t *testing.T) {
	a, b := plane(0, 5, 1), plane(3, 8, 2)
	list := []*question{short(a, b), short(b, a), short(a, a), short(plane(0, 5, 2), b), pose(every, a, b, 0, 1), pose(every, a, b, 0, 2), pose(every, a, b, 1, 0)}
	seen := make(map[[api.MaxVars]uint64]int)
	for i, q := range list {
		s := q.spot()
		if s.at != q.spot().at {
			t.Errorf("%d is another one the second time", i)
		}
		if seen[s.at]++; seen[s.at] > 1 {
			t.Errorf("%d is like another one", i)
		}
	}
}

// TestApart: what is left when a common divisor is taken out tells the same; where the divisor is of a higher degree,
// there is nothing left.
func TestApart(t *testing.T) {
	r := rand.New(rand.NewPCG(9, 28))
	zeros, others := 0, 0
	for i := range 200 {
		vars := 1 + i%3
		v := r.IntN(vars)
		a, b, g := random(r, vars, 3, 2, 5), random(r, vars, 3, 2, 5), random(r, vars, 3, 1+i%2, 5)
		a, _ = mpoly.Mul(a, g)
		b, _ = mpoly.Mul(b, g)
		for _, q := range questions(a, b, v) {
			want, _ := q.eliminated(1 << 40)
			left, factors := q.apart()
			if left == nil {
				zeros++
				if len(want) > 0 {
					t.Fatalf("%v and %v, %d: not 0", a, b, q.j)
				}
				continue
			}
			others++
			s, _ := left.eliminated(1 << 40)
			if got := (&work{1 << 40}).product(s, factors); !same(got, want) {
				t.Fatalf("%v and %v by %d, %d, %d: %v, want %v", a, b, v, q.j, q.kind, got, want)
			}
		}
	}
	if zeros < 50 || others < 50 {
		t.Errorf("%d and %d", zeros, others)
	}
}

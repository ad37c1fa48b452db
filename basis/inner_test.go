package basis

import (
	"container/heap"
	"math/rand/v2"
	"slices"
	"testing"

	"terrace/api"
	"terrace/big"
	"terrace/mpoly"
	"terrace/residue"
)

func randomPoly(r *rand.Rand, n, terms, most int, size int64) api.MPoly {
	var list []term
	for range terms {
		t := term{coef: big.From(r.Int64N(2*size) - size)}
		for u := range n {
			t.at[u] = r.IntN(most + 1)
		}
		if big.Sign(t.coef) != 0 && !slices.ContainsFunc(list, func(x term) bool { return x.at == t.at }) {
			list = append(list, t)
		}
	}
	return written(n, list)
}

// randomProducts makes products of few factors, v standing in each product.
func randomProducts(r *rand.Rand, n, v int) []api.MPoly {
	var some, l []api.MPoly
	for len(some) < 4 {
		if p := randomPoly(r, n, 1+r.IntN(4), 1+r.IntN(3), []int64{2, 9, 1 << 60}[r.IntN(3)]); len(p.Terms) > 0 {
			some = append(some, p)
		}
	}
	for range 1 + r.IntN(4) {
		p, _ := mpoly.Const(n, big.From(r.Int64N(4)+1))
		for range r.IntN(5) {
			if q, e := mpoly.Mul(p, some[r.IntN(len(some))]); e == api.OK && len(q.Terms) < 300 {
				p = q
			}
		}
		if degree(p, v) > 0 {
			l = append(l, p)
		}
	}
	return l
}

func areSame(a, b []api.MPoly) bool {
	a, b = slices.Clone(a), slices.Clone(b)
	slices.SortFunc(a, mpoly.Cmp)
	slices.SortFunc(b, mpoly.Cmp)
	return slices.EqualFunc(a, b, func(p, q api.MPoly) bool { return mpoly.Cmp(p, q) == 0 })
}

// What is found by a search is what is found by splitting.
func TestSearchLikeSplitting(t *testing.T) {
	r := rand.New(rand.NewPCG(10, 3))
	for range 1500 {
		n := 1 + r.IntN(4)
		v := r.IntN(n)
		l := randomProducts(r, n, v)
		if len(l) == 0 {
			continue
		}
		want, ok := newSplitter(l, v).classes()
		got, found := newSearch(l, v).found()
		if !ok || !found || !areSame(got, want) {
			t.Fatalf("of %v by %d: %v, %v", l, v, got, want)
		}
	}
}

// What is stuck, or whatever of it, is parted from what is not.
func TestStuck(t *testing.T) {
	r := rand.New(rand.NewPCG(10, 4))
	for range 600 {
		n := 2 + r.IntN(3)
		v := r.IntN(n)
		l := randomProducts(r, n, v)
		want, _ := newSplitter(l, v).classes()
		s := newSplitter(l, v)
		for len(s.left) > 0 && r.IntN(3) > 0 {
			i := r.IntN(len(s.left))
			s.stuck = append(s.stuck, heap.Remove(&s.left, i).(piece))
		}
		if got, ok := s.classes(); !ok || !areSame(got, want) {
			t.Fatalf("of %v by %d: %v, %v", l, v, got, want)
		}
	}
}

// What shows no image is split all the same.
func TestWithoutImages(t *testing.T) {
	r := rand.New(rand.NewPCG(10, 5))
	for range 300 {
		n := 1 + r.IntN(3)
		v := r.IntN(n)
		l := randomProducts(r, n, v)
		want, _ := newSplitter(l, v).classes()
		s := newSplitter(l, v)
		s.spot.at = numbers{} // all that stands with a variable beside v is 0 there
		for i := range s.left {
			s.left[i].image = s.spot.image(s.left[i].p, v)
		}
		if got, ok := s.classes(); !ok || !areSame(got, want) {
			t.Fatalf("of %v by %d: %v, %v", l, v, got, want)
		}
	}
}

// Luck hangs on all that is asked, signs and order too.
func TestLucky(t *testing.T) {
	seen := make(map[uint64]int)
	p := func(sign int64, e int) api.MPoly {
		return written(2, []term{{exponents{e, 1}, big.From(3 * sign)}, {exponents{}, big.From(1)}})
	}
	for i, l := range []*residue.Luck{lucky(nil, 0), lucky([]api.MPoly{p(1, 0)}, 0), lucky([]api.MPoly{p(1, 0)}, 1), lucky([]api.MPoly{p(-1, 0)}, 0), lucky([]api.MPoly{p(1, 2)}, 0), lucky([]api.MPoly{p(1, 0), p(1, 2)}, 0), lucky([]api.MPoly{p(1, 2), p(1, 0)}, 0)} {
		n := l.Number()
		if seen[n]++; seen[n] > 1 {
			t.Errorf("%d is like another one", i)
		}
	}
}

// The heap tells the least one first.
func TestPieces(t *testing.T) {
	r := rand.New(rand.NewPCG(10, 6))
	var h pieces
	for range 200 {
		heap.Push(&h, piece{p: randomPoly(r, 2, 3, 5, 4)})
	}
	last := heap.Pop(&h).(piece)
	for h.Len() > 0 {
		p := heap.Pop(&h).(piece)
		if mpoly.Cmp(last.p, p.p) > 0 {
			t.Fatalf("%v ahead of %v", last.p, p.p)
		}
		last = p
	}
}

// Bad luck is thrown, and another try is made; what shows too little is never taken.
func TestBadLuck(t *testing.T) {
	x, _ := mpoly.Var(2, 0)
	y, _ := mpoly.Var(2, 1)
	p, _ := mpoly.Sub(y, x)
	q, _ := mpoly.Add(y, x)
	both, _ := mpoly.Mul(p, q)
	s := newSearch([]api.MPoly{both, p}, 1)
	if got, ok := s.found(); !ok || !areSame(got, []api.MPoly{p, q}) {
		t.Fatalf("%v, %v", got, ok)
	}
	thrown := func(what func()) (out any) {
		defer func() { out = recover() }()
		what()
		return nil
	}
	w := s.view()
	for what, call := range map[string]func(){
		"a point where y - x and y + x are alike": func() { w.classesAt(numbers{}) },
		"a low degree":   func() { w.monic([]uint64{w.One(), 0}, 1) },
		"another shape":  func() { held(s.shape[:1], s.shape) },
		"alike nodes":    func() { w.solved([][]uint64{{w.One(), w.One()}}, [][]uint64{{1, 2}}) },
		"numbers of 0":   func() { w.solved([][]uint64{{w.One()}}, [][]uint64{{0}}) },
		"a node of 0":    func() { w.nodes(residue.Law{Long: 1, Now: []uint64{w.One()}}) },
		"a value of 0":   func() { w.scaledTo([]uint64{0, w.One()}, 0, w.One()) },
		"nothing":        func() { w.scaledTo([]uint64{w.One()}, w.One(), 0) },
		"a wrong number": func() { w.check([]uint64{w.One()}, []uint64{w.One()}, []uint64{w.One(), 0}) },
		"a wrong class": func() {
			s.known[0], s.known[1] = s.known[1], s.known[0]
			s.confirm()
		},
	} {
		if got := thrown(call); got != (unlucky{}) {
			t.Errorf("%s: %v", what, got)
		}
	}
}

// Where a prime divides a lead, other ones are taken, as long as there is hope.
func TestAnotherPrime(t *testing.T) {
	for _, c := range []struct {
		primes int
		want   bool
	}{{1, true}, {5, true}, {tries - 1, true}, {tries, false}} {
		luck, lead := lucky(nil, 0), big.From(1)
		for range c.primes {
			lead, _ = big.Mul(lead, luck.Field().Prime())
		}
		p := written(2, []term{{exponents{0, 2}, lead}, {exponents{3, 0}, big.From(-5)}})
		q := written(2, []term{{exponents{1, 1}, big.From(1)}, {exponents{}, big.From(2)}})
		both, _ := mpoly.Mul(p, q)
		s := newSearch([]api.MPoly{both, q}, 1)
		s.luck = lucky(nil, 0)
		got, ok := s.found()
		if ok != c.want || ok && !areSame(got, []api.MPoly{p, q}) {
			t.Errorf("%d primes: %v, %v", c.primes, got, ok)
		}
	}
}

// isTooLong tells true only of quotients that are, and of all that are.
func TestTooLong(t *testing.T) {
	power := func(n, u, e int) api.MPoly {
		p := api.MPoly{Vars: n, Terms: []api.Term{{Exps: make([]int, n), Coef: big.From(1)}}}
		p.Terms[0].Exps[u] = e
		one, _ := mpoly.Const(n, big.From(1))
		p, _ = mpoly.Sub(p, one)
		return p
	}
	for _, c := range []struct {
		m, n int
		want bool
	}{{64, 64, false}, {64, 65, true}, {2, 1024, false}, {4, 1024, false}, {5, 1024, true}, {1024, 1024, true}} {
		p, _ := mpoly.Mul(power(2, 0, c.m), power(2, 1, c.n))
		b, _ := mpoly.Mul(power(2, 0, 1), power(2, 1, 1))
		for v := range 2 {
			if got := newSpot(lucky([]api.MPoly{p, b}, v)).isTooLong(p, b, v); got != c.want {
				t.Errorf("%d x %d: %v", c.m, c.n, got)
			}
		}
	}
	if newSpot(lucky(nil, 0)).isTooLong(power(2, 0, 500), power(2, 0, 501), 0) {
		t.Error("what has no quotient is too long")
	}
}

// isHopeless is a guess about what two have in common and what is left of them.
func TestHopeless(t *testing.T) {
	differ := func(n int) api.MPoly { // makes (x + y)^n - (z + w)^n
		a := written(4, []term{{exponents{1}, big.From(1)}, {exponents{0, 1}, big.From(1)}})
		b := written(4, []term{{exponents{0, 0, 1}, big.From(1)}, {exponents{0, 0, 0, 1}, big.From(1)}})
		p, q := one(a), one(a)
		for range n {
			p, _ = mpoly.Mul(p, a)
			q, _ = mpoly.Mul(q, b)
		}
		p, _ = mpoly.Sub(p, q)
		return p
	}
	for _, c := range []struct {
		m, n int
		want bool
	}{{1, 2, false}, {20, 30, false}, {30, 31, false}, {60, 90, false}, {90, 91, true}, {2, 255, true}, {4, 4, false}} {
		p, q := differ(c.m), differ(c.n)
		for v := range 4 {
			s := newSpot(lucky([]api.MPoly{p, q}, v))
			if s.isHopeless(p, q, v) != c.want || s.isHopeless(q, p, v) != c.want {
				t.Errorf("%d and %d by %d: not %v", c.m, c.n, v, c.want)
			}
			if s.at = (numbers{}); s.isHopeless(p, p, v) {
				t.Errorf("%d by %d: hopeless where nothing shows", c.m, v)
			}
		}
	}
}

// Classes of images are by how often each one has what is in them.
func TestClassesOf(t *testing.T) {
	f := residue.Modulo(1<<61 - 1)
	roots := make([]uint64, 6)
	for i := range roots {
		roots[i] = f.Of(big.From(int64(i + 2)))
	}
	of := func(list ...int) []uint64 {
		var all []uint64
		for _, i := range list {
			all = append(all, roots[i])
		}
		return f.WithRoots(all)
	}
	got := classesOf(f, [][]uint64{of(0, 1, 1, 2, 3), of(1, 1, 4), of(), of(3, 2, 2, 3, 5, 4)})
	want := []class{{[]int{0, 0, 0, 1}, of(5)}, {[]int{0, 1, 0, 1}, of(4)}, {[]int{1, 0, 0, 0}, of(0)}, {[]int{1, 0, 0, 2}, of(2, 3)}, {[]int{2, 2, 0, 0}, of(1)}}
	same := func(a, b class) bool { return slices.Equal(a.often, b.often) && slices.Equal(a.image, b.image) }
	if !slices.EqualFunc(got, want, same) {
		t.Errorf("%v, want %v", got, want)
	}
}

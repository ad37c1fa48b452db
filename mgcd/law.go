package mgcd

// law is the shortest one by which each number of a list follows from those ahead of it (Berlekamp, Massey): now[0] is
// 1, and the sum of all now[i] list[n - i] is 0. If list[n] is a sum of numbers times the n-th powers of nodes, as many
// are in it as the law is long, and list has twice as many numbers, the law tells the nodes.
type law struct {
	list    []uint64
	now     []uint64
	long    int
	before  []uint64 // what was in force ahead of the last change of length
	inverse uint64   // of what was missing then
	since   int      // how many numbers have come since then
}

// settled tells whether a number has come that the law foretold.
func (w *law) settled() bool {
	return len(w.list) > 2*w.long
}

func (w *law) take(f field, n uint64) {
	if w.now == nil {
		w.now, w.before, w.inverse = []uint64{f.One()}, []uint64{f.One()}, f.One()
	}
	w.list = append(w.list, n)
	w.since++
	missing := w.missing(f)
	if missing == 0 {
		return
	}
	old, grows := w.now, w.long*2 < len(w.list)
	w.now = f.without(old, w.before, f.Times(missing, w.inverse), w.since)
	if grows {
		w.long = len(w.list) - w.long
		w.before, w.inverse, w.since = old, f.Inverse(missing), 0
	}
}

// missing tells by what the last number is not what the law foretells.
func (w *law) missing(f field) uint64 {
	out, last := uint64(0), len(w.list)-1
	for i, c := range w.now {
		out = f.Plus(out, f.Times(c, w.list[last-i]))
	}
	return out
}

// without tells a less c times b moved up by some places.
func (f field) without(a, b []uint64, c uint64, places int) []uint64 {
	out := make([]uint64, max(len(a), len(b)+places))
	copy(out, a)
	for i, n := range b {
		out[i+places] = f.Minus(out[i+places], f.Times(c, n))
	}
	return trimmed(out)
}

// exponents tells for each law which of the nodes are in it: by its numbers alone, if it has one for each node.
func (f field) exponents(nodes []uint64, laws []law) [][]int {
	out := make([][]int, len(laws))
	var lists [][]uint64
	for i, w := range laws {
		if len(w.list) < len(nodes) {
			out[i] = w.exponents(f, nodes)
			continue
		}
		lists = append(lists, w.list)
	}
	for i, numbers := range f.solved(nodes, lists) {
		for e, c := range numbers {
			if c != 0 {
				out[i] = append(out[i], e)
			}
		}
	}
	return out
}

// exponents tells which of the nodes are in a law that has settled.
func (w *law) exponents(f field, nodes []uint64) []int {
	backward := make([]uint64, w.long+1) // the law's polynomial, whose roots are the nodes
	for i, c := range w.now {
		backward[w.long-i] = c
	}
	var out []int
	for e, node := range nodes {
		if f.value(backward, node) == 0 {
			out = append(out, e)
		}
	}
	if len(out) != w.long {
		panic(unlucky{})
	}
	return out
}

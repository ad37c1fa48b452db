package residue

// Law is the shortest one by which each number of a list follows from those ahead of it (Berlekamp, Massey): Now[0] is
// 1, and the sum of all Now[i] List[n - i] is 0, n being Long or more. If List[n] is a sum of numbers times the n-th
// powers of nodes, Long is never above the number of nodes; and if List has twice as many numbers, the law tells the
// nodes.
type Law struct {
	List    []uint64
	Now     []uint64
	Long    int
	before  []uint64 // what was in force ahead of the last change of length
	inverse uint64   // of what was missing then
	since   int      // how many numbers have come since then
}

// Settled tells whether a number has come that the law foretold.
func (w *Law) Settled() bool {
	return len(w.List) > 2*w.Long
}

// Take adds the list's next number.
func (w *Law) Take(f Field, n uint64) {
	if w.Now == nil {
		w.Now, w.before, w.inverse = []uint64{f.One()}, []uint64{f.One()}, f.One()
	}
	w.List = append(w.List, n)
	w.since++
	missing := w.missing(f)
	if missing == 0 {
		return
	}
	old, grows := w.Now, w.Long*2 < len(w.List)
	w.Now = f.without(old, w.before, f.Times(missing, w.inverse), w.since)
	if grows {
		w.Long = len(w.List) - w.Long
		w.before, w.inverse, w.since = old, f.Inverse(missing), 0
	}
}

// missing tells by what the last number is not what the law foretells.
func (w *Law) missing(f Field) uint64 {
	out, last := uint64(0), len(w.List)-1
	for i, c := range w.Now {
		out = f.Plus(out, f.Times(c, w.List[last-i]))
	}
	return out
}

// without tells a less c times b moved up by some places.
func (f Field) without(a, b []uint64, c uint64, places int) []uint64 {
	out := make([]uint64, max(len(a), len(b)+places))
	copy(out, a)
	for i, n := range b {
		out[i+places] = f.Minus(out[i+places], f.Times(c, n))
	}
	for len(out) > 1 && out[len(out)-1] == 0 {
		out = out[:len(out)-1]
	}
	return out
}

package mgcd

import "terrace/residue"

// exponents tells for each law which of the nodes are in it: by its numbers alone, if it has one for each node.
func (f field) exponents(nodes []uint64, laws []residue.Law) [][]int {
	out := make([][]int, len(laws))
	var lists [][]uint64
	for i, w := range laws {
		if len(w.List) < len(nodes) {
			out[i] = f.lawful(nodes, w)
			continue
		}
		lists = append(lists, w.List)
	}
	for i, numbers := range f.solved(nodes, lists) {
		for e, c := range numbers {
			if c != 0 {
				out[i] = append(out[i], e)
			}
		}
	}
	return out
}

// lawful tells which of the nodes are in a law that has settled.
func (f field) lawful(nodes []uint64, w residue.Law) []int {
	backward := make([]uint64, w.Long+1) // the law's polynomial, whose roots are the nodes
	for i, c := range w.Now {
		backward[w.Long-i] = c
	}
	var out []int
	for e, node := range nodes {
		if f.Value(backward, node) == 0 {
			out = append(out, e)
		}
	}
	if len(out) != w.Long {
		panic(unlucky{})
	}
	return out
}

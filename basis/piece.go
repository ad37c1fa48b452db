package basis

import (
	"terrace/api"
	"terrace/mpoly"
)

// piece is a polynomial that is to be split, or of the base.
type piece struct {
	p      api.MPoly
	degree int      // in v
	image  []uint64 // at the splitter's spot, its lead 1; nothing, if a lower degree shows there
	plain  bool     // it is proved that it has no factor twice
}

// pieces is a heap, the least one first.
type pieces []piece

func (h pieces) Len() int           { return len(h) }
func (h pieces) Less(i, j int) bool { return mpoly.Cmp(h[i].p, h[j].p) < 0 }
func (h pieces) Swap(i, j int)      { h[i], h[j] = h[j], h[i] }

func (h *pieces) Push(x any) {
	*h = append(*h, x.(piece))
}

func (h *pieces) Pop() any {
	last := len(*h) - 1
	p := (*h)[last]
	*h = (*h)[:last]
	return p
}

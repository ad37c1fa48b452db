package basis

import (
	"slices"

	"terrace/residue"
)

// class is what shows of a class of alike factors: how often each of some polynomials has them, and their product's
// image, its lead 1.
type class struct {
	often []int
	image []uint64
}

// classesOf tells those of images, whose leads are 1, in an order that hangs on how often alone.
func classesOf(f residue.Field, images [][]uint64) []class {
	var list []class
	for i := range images {
		list = parted(f, list, images, i)
	}
	slices.SortFunc(list, func(a, b class) int { return slices.Compare(a.often, b.often) })
	return list
}

// parted parts the classes of the first images by how often the next one has what is in them, and adds what is in none.
func parted(f residue.Field, list []class, images [][]uint64, i int) []class {
	var out []class
	left := images[i]
	add := func(often []int, parts [][]uint64) {
		for n, part := range parts {
			if len(part) > 1 {
				c := class{slices.Clone(often), part}
				c.often[i] = n
				out = append(out, c)
			}
		}
	}
	var parts [][]uint64
	for _, c := range list {
		parts, left = howOften(f, c.image, left)
		add(c.often, parts)
	}
	if len(left) > 1 {
		twice := f.Common(left, f.Monic(f.Derivative(left)))
		parts, _ = howOften(f, f.Without(left, twice), left)
		add(make([]int, len(images)), parts)
	}
	return out
}

// howOften tells the products of what of a, which has nothing twice, b has not at all, once, twice and so on, and what
// is left of b.
func howOften(f residue.Field, a, b []uint64) (parts [][]uint64, left []uint64) {
	for {
		both := f.Common(a, b)
		if len(both) == 1 {
			return append(parts, a), b
		}
		parts = append(parts, f.Without(a, both))
		a, b = both, f.Without(b, both)
	}
}

// areLike tells whether classes are as often and of the same degrees.
func areLike(a, b []class) bool {
	return slices.EqualFunc(a, b, func(x, y class) bool {
		return slices.Equal(x.often, y.often) && len(x.image) == len(y.image)
	})
}

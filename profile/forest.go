package profile

import (
	"slices"

	"speculum/api"
)

const notReached = -1

// forest is a tree of cells for each region of a grid: those that are reached, with the heights that the steps of the
// tree give them.
type forest struct {
	grid
	heights []int
	before  []int // the cell from which each one was reached; a root is its own one
}

func newForest(g grid) forest {
	cells := len(g.phases)
	return forest{g, make([]int, cells), slices.Repeat([]int{notReached}, cells)}
}

// grow makes the tree of the region of a cell that is not reached.
func (f forest) grow(root int) {
	f.heights[root], f.before[root] = f.phases[root], root
	for reached := []int{root}; len(reached) > 0; reached = reached[1:] {
		cell := reached[0]
		for next := range f.neighbours(cell) {
			if f.before[next] == notReached {
				f.heights[next], f.before[next] = f.heights[cell]+f.step(cell, next), cell
				reached = append(reached, next)
			}
		}
	}
}

// trunk is the cells from a cell back to the root of its tree.
func (f forest) trunk(cell int) []int {
	cells := []int{cell}
	for f.before[cell] != cell {
		cell = f.before[cell]
		cells = append(cells, cell)
	}
	return cells
}

// loop is the one that the step from to back to from closes: back from from to the cell where the trunks meet, and from
// there to to.
func (f forest) loop(from, to int) []int {
	back, forth := f.trunk(from), f.trunk(to)
	for len(back) > 1 && len(forth) > 1 && back[len(back)-2] == forth[len(forth)-2] {
		back, forth = back[:len(back)-1], forth[:len(forth)-1]
	}
	slices.Reverse(forth)
	return append(back, forth[1:]...)
}

// Unwrap is the heights of a map, or a loop that does not close.
func Unwrap(f api.FringeMap) ([]int, []int, api.Errno) {
	g, e := newGrid(f)
	if e != api.OK {
		return nil, nil, e
	}
	woods := newForest(g)
	for cell := range woods.phases {
		if woods.has(cell) && woods.before[cell] == notReached {
			woods.grow(cell)
		}
	}
	for cell := range woods.phases {
		for next := range woods.neighbours(cell) {
			if woods.heights[next]-woods.heights[cell] != woods.step(cell, next) {
				return nil, woods.loop(cell, next), api.ErrOpen
			}
		}
	}
	return woods.heights, nil, api.OK
}

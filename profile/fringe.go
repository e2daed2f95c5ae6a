package profile

import (
	"iter"
	"slices"

	"speculum/api"
)

const (
	masked  = -1
	order   = 1000                          // an order, in its thousandths
	maxLoop = api.MaxFringe * api.MaxFringe // cells of a loop
)

// CheckFringes tells whether a fringe map is valid.
func CheckFringes(f api.FringeMap) api.Errno {
	if !isWithin(f.Width, 1, api.MaxFringe) {
		return api.ErrRange
	}
	if len(f.Phases)%f.Width != 0 || !isWithin(len(f.Phases)/f.Width, 1, api.MaxFringe) {
		return api.ErrShape
	}
	for _, phase := range f.Phases {
		if !isWithin(phase, masked, order-1) {
			return api.ErrRange
		}
	}
	return api.OK
}

// grid is the cells of a valid fringe map.
type grid struct {
	width  int
	phases []int
}

func newGrid(f api.FringeMap) (grid, api.Errno) {
	if e := CheckFringes(f); e != api.OK {
		return grid{}, e
	}
	return grid{f.Width, f.Phases}, api.OK
}

// has tells whether there is a cell with this number that is not masked.
func (g grid) has(cell int) bool {
	return isWithin(cell, 0, len(g.phases)-1) && g.phases[cell] != masked
}

// areNeighbours tells whether the grid has two cells, and one is to the right of, or below, the other one.
func (g grid) areNeighbours(a, b int) bool {
	least, most := min(a, b), max(a, b)
	isRight := most == least+1 && most%g.width != 0
	isBelow := most == least+g.width
	return g.has(a) && g.has(b) && (isRight || isBelow)
}

// neighbours yields the neighbours of a cell.
func (g grid) neighbours(cell int) iter.Seq[int] {
	return func(yield func(int) bool) {
		for other := range g.phases {
			if g.areNeighbours(cell, other) && !yield(other) {
				return
			}
		}
	}
}

// step is the step from a cell to a neighbour.
func (g grid) step(from, to int) int {
	if from > to {
		return -g.step(to, from)
	}
	// the difference is from -999 to 999
	return (g.phases[to]-g.phases[from]+order+order/2)%order - order/2
}

// around yields each two cells of a loop that follow each other, the last one and the first one, too.
func around(loop []int) iter.Seq2[int, int] {
	return func(yield func(int, int) bool) {
		for i, cell := range loop {
			if !yield(cell, loop[(i+1)%len(loop)]) {
				return
			}
		}
	}
}

// sum is the sum of the steps of a loop.
func (g grid) sum(loop []int) int {
	sum := 0
	for cell, next := range around(loop) {
		sum += g.step(cell, next)
	}
	return sum
}

// square is the loop of a cell with those to the right, below right and below, if the grid has them all.
func (g grid) square(cell int) ([]int, bool) {
	loop := []int{cell, cell + 1, cell + 1 + g.width, cell + g.width}
	isLast := (cell+1)%g.width == 0
	hasNot := func(cell int) bool { return !g.has(cell) }
	return loop, !isLast && !slices.ContainsFunc(loop, hasNot)
}

// Step is the step from a cell to a neighbour.
func Step(f api.FringeMap, from, to int) (int, api.Errno) {
	g, e := newGrid(f)
	if e != api.OK {
		return 0, e
	}
	if !g.has(from) || !g.has(to) {
		return 0, api.ErrMissing
	}
	if !g.areNeighbours(from, to) {
		return 0, api.ErrGap
	}
	return g.step(from, to), api.OK
}

// Residues is the cells whose squares do not close, each one with the orders that are left over.
func Residues(f api.FringeMap) ([][2]int, api.Errno) {
	g, e := newGrid(f)
	if e != api.OK {
		return nil, e
	}
	var residues [][2]int
	for cell := range g.phases {
		loop, ok := g.square(cell)
		if !ok {
			continue
		}
		if sum := g.sum(loop); sum != 0 {
			residues = append(residues, [2]int{cell, sum / order})
		}
	}
	return residues, api.OK
}

// CheckLoop is the sum of a loop, if it proves that the map has no heights.
func CheckLoop(f api.FringeMap, loop []int) (int, api.Errno) {
	g, e := newGrid(f)
	if e != api.OK {
		return 0, e
	}
	if !isWithin(len(loop), 2, maxLoop) {
		return 0, api.ErrShape
	}
	for _, cell := range loop {
		if !g.has(cell) {
			return 0, api.ErrMissing
		}
	}
	for cell, next := range around(loop) {
		if !g.areNeighbours(cell, next) {
			return 0, api.ErrGap
		}
	}
	sum := g.sum(loop)
	if sum == 0 {
		return 0, api.ErrProof
	}
	return sum, api.OK
}

package point

import (
	"math"
	"slices"

	"speculum/api"
)

// highest is, for each turn of a stop, the highest potential that still proves a bound behind those of the stop before.
func (t tour) highest(n int, potentials [][]int) []int {
	from, before := []int{t.begin}, []int{0}
	if n > 0 {
		from, before = t.stops[n-1].positions, potentials[n-1]
	}
	highest := make([]int, len(t.stops[n].positions))
	for i, to := range t.stops[n].positions {
		highest[i] = math.MaxInt
		for j, potential := range before {
			highest[i] = min(highest[i], potential+costBetween(from[j], to))
		}
	}
	return highest
}

// potentials are the highest ones that prove a bound: the least costs of the choices up to each turn of each stop. So
// their bound is the least cost of all.
func (t tour) potentials() [][]int {
	var potentials [][]int
	for n := range t.stops {
		potentials = append(potentials, t.highest(n, potentials))
	}
	return potentials
}

// boundOf is the bound that potentials prove.
func boundOf(potentials [][]int) int {
	if len(potentials) == 0 {
		return 0
	}
	return slices.Min(potentials[len(potentials)-1])
}

// checkPotentials is the first error of potentials, whether they prove a bound or not.
func (t tour) checkPotentials(potentials [][]int) api.Errno {
	if len(potentials) != len(t.stops) {
		return api.ErrShape
	}
	for n, s := range t.stops {
		if len(potentials[n]) != len(s.turns) {
			return api.ErrShape
		}
	}
	for _, l := range potentials {
		if !areSmall(maxPotential, l...) {
			return api.ErrRange
		}
	}
	return api.OK
}

// CheckLeast is the bound that potentials prove: no choice costs less.
func CheckLeast(m api.SkyMount, l []api.SkyTarget, at [2]int, potentials [][]int) (int, api.Errno) {
	t, _, e := tourOf(m, l, at)
	if e != api.OK {
		return 0, e
	}
	if e := t.checkPotentials(potentials); e != api.OK {
		return 0, e
	}
	for n := range t.stops {
		for i, highest := range t.highest(n, potentials) {
			if potentials[n][i] > highest {
				return 0, api.ErrProof
			}
		}
	}
	return boundOf(potentials), api.OK
}

// choice is turns that cost as much as the highest potentials prove. It goes back from the last stop, always to the turn
// from which the way onward costs least in all.
func (t tour) choice(potentials [][]int) []int {
	turns := make([]int, len(t.stops))
	onward := func(int) int { return 0 }
	for n, s := range slices.Backward(t.stops) {
		best := 0
		for i, from := range s.positions {
			if potentials[n][i]+onward(from) < potentials[n][best]+onward(s.positions[best]) {
				best = i
			}
		}
		turns[n] = s.turns[best]
		onward = func(from int) int { return costBetween(from, s.positions[best]) }
	}
	return turns
}

// Choose is a choice with the least cost, with potentials that prove it, and the cost.
func Choose(m api.SkyMount, l []api.SkyTarget, at [2]int) (api.SkyChoice, int, api.Errno) {
	t, _, e := tourOf(m, l, at)
	if e != api.OK {
		return api.SkyChoice{}, 0, e
	}
	potentials := t.potentials()
	return api.SkyChoice{Turns: t.choice(potentials), Potentials: potentials}, boundOf(potentials), api.OK
}

package point

import (
	"slices"

	"speculum/api"
)

const (
	unwinding    = 10000000000   // what a way costs beside itself if it unwinds
	maxPotential = 1000000000000 // in size
)

// tour is stops in an order, with the position at which it begins.
type tour struct {
	begin int
	stops []stop
}

// wayBetween is a way, and whether it unwinds.
func wayBetween(from, to int) (int, bool) {
	way := max(to-from, from-to)
	return way, way > api.Turn/2
}

// Way is the way from a position to another one, and whether it unwinds.
func Way(from, to int) (int, bool, api.Errno) {
	if !areSmall(maxPosition, from, to) {
		return 0, false, api.ErrRange
	}
	way, unwinds := wayBetween(from, to)
	return way, unwinds, api.OK
}

// costBetween is the cost of a way.
func costBetween(from, to int) int {
	way, unwinds := wayBetween(from, to)
	if unwinds {
		return way + unwinding
	}
	return way
}

// tourOf is the tour of targets, or its first error, with the number of the target that has it.
func tourOf(m api.SkyMount, l []api.SkyTarget, at [2]int) (tour, int, api.Errno) {
	if e := CheckMount(m); e != api.OK {
		return tour{}, 0, e
	}
	day, begin := at[0], at[1]
	if e := checkDay(day); e != api.OK {
		return tour{}, 0, e
	}
	if !areWithin(m.Least, m.Most, begin) {
		return tour{}, 0, api.ErrRange
	}
	if len(l) > api.MaxSkyTargets {
		return tour{}, 0, api.ErrLarge
	}
	t := tour{begin: begin}
	for n, target := range l {
		if e := checkBehind(l[:n], target); e != api.OK {
			return tour{}, n, e
		}
		s, e := stopAt(m, target, day)
		if e != api.OK {
			return tour{}, n, e
		}
		t.stops = append(t.stops, s)
	}
	return t, 0, api.OK
}

// CheckTour is the first error of a tour, with the number of the target that has it.
func CheckTour(m api.SkyMount, l []api.SkyTarget, at [2]int) (int, api.Errno) {
	_, n, e := tourOf(m, l, at)
	return n, e
}

// chosen is the positions of a choice, or its first error.
func (t tour) chosen(turns []int) ([]int, api.Errno) {
	if len(turns) != len(t.stops) {
		return nil, api.ErrShape
	}
	positions := make([]int, len(turns))
	for n, turn := range turns {
		found := slices.Index(t.stops[n].turns, turn)
		if found < 0 {
			return nil, api.ErrMissing
		}
		positions[n] = t.stops[n].positions[found]
	}
	return positions, api.OK
}

// CheckChoice is the cost of a choice.
func CheckChoice(m api.SkyMount, l []api.SkyTarget, at [2]int, turns []int) (int, api.Errno) {
	t, _, e := tourOf(m, l, at)
	if e != api.OK {
		return 0, e
	}
	positions, e := t.chosen(turns)
	if e != api.OK {
		return 0, e
	}
	cost, from := 0, t.begin
	for _, to := range positions {
		cost += costBetween(from, to)
		from = to
	}
	return cost, api.OK
}

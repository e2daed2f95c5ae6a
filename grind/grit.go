package grind

import (
	"cmp"

	"speculum/api"
)

const (
	maxDepth = 1000000 // depths of damage
	maxRate  = 100000
)

// CheckGrits tells whether grits are valid.
func CheckGrits(l []api.Grit) api.Errno {
	known := map[string]bool{}
	return firstOf(
		need(len(l) <= api.MaxGrits, api.ErrLarge),
		each(len(l), func(i int) api.Errno {
			isKnown := known[l[i].Name]
			known[l[i].Name] = true
			return firstOf(
				named(l[i].Name),
				need(!isKnown, api.ErrExists),
				within(0, maxDepth, l[i].Damage),
				within(1, maxRate, l[i].Rate),
			)
		}),
	)
}

// validGrits makes the check of grits.
func validGrits(l []api.Grit) check {
	return func() api.Errno { return CheckGrits(l) }
}

// StepMinutes is the minutes in which a grit removes a depth.
func StepMinutes(l []api.Grit, grit, depth int) (int, api.Errno) {
	e := firstOf(
		validGrits(l),
		need(isWithin(grit, 0, len(l)-1), api.ErrMissing),
		within(0, maxDepth, depth),
	)
	if e != api.OK {
		return 0, e
	}
	return up(depth, l[grit].Rate), api.OK
}

// CheckSequence is the minutes of a sequence of grits, if it leads from the first of the depths to the second one.
func CheckSequence(l []api.Grit, sequence []int, depths [2]int) (int, api.Errno) {
	e := firstOf(
		validGrits(l),
		within(0, maxDepth, depths[:]...),
		need(len(sequence) <= api.MaxGrits, api.ErrLarge),
	)
	if e != api.OK {
		return 0, e
	}
	minutes, damage := 0, depths[0]
	for _, grit := range sequence {
		if !isWithin(grit, 0, len(l)-1) {
			return 0, api.ErrMissing
		}
		if l[grit].Damage >= damage {
			return 0, api.ErrOrder
		}
		minutes += up(damage, l[grit].Rate)
		damage = l[grit].Damage
	}
	if damage > depths[1] {
		return 0, api.ErrGap
	}
	return minutes, api.OK
}

// work is a sequence of grits and its minutes.
type work struct {
	sequence []int
	minutes  int
}

func (w work) isShorter(than work) bool {
	return cmp.Or(cmp.Compare(w.minutes, than.minutes), cmp.Compare(len(w.sequence), len(than.sequence))) < 0
}

// Shortest is the sequence with the fewest minutes from the first of the depths to the second one, and its minutes.
func Shortest(l []api.Grit, depths [2]int) ([]int, int, api.Errno) {
	if e := firstOf(validGrits(l), within(0, maxDepth, depths[:]...)); e != api.OK {
		return nil, 0, e
	}
	best, ok := shortest(l, depths[0], depths[1])
	if !ok {
		return nil, 0, api.ErrNone
	}
	return best.sequence, best.minutes, api.OK
}

// shortest tries each grit as the first one. Damage goes down, so there are no more sequences than sets of grits. Of
// equal works the first one is kept: it is the first one lexicographically.
func shortest(l []api.Grit, damage, wanted int) (work, bool) {
	if damage <= wanted {
		return work{}, true
	}
	var best work
	found := false
	for grit, g := range l {
		if g.Damage >= damage {
			continue
		}
		rest, ok := shortest(l, g.Damage, wanted)
		w := work{append([]int{grit}, rest.sequence...), up(damage, g.Rate) + rest.minutes}
		if ok && (!found || w.isShorter(best)) {
			best, found = w, true
		}
	}
	return best, found
}

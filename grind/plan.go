package grind

import (
	"cmp"

	"speculum/api"
)

const (
	maxDen     = 10000000   // denominators of plans and weights
	maxPlanned = 1000000000 // minutes of plans, and weights, not divided by their denominator
)

// validPlan makes the check of a plan, for valid strokes.
func validPlan(l []api.Stroke, p api.GrindPlan) check {
	return func() api.Errno {
		return firstOf(
			need(len(p.Minutes) == len(l), api.ErrShape),
			within(1, maxDen, p.Den),
			within(0, maxPlanned, p.Minutes...),
		)
	}
}

// wearTimesDen is the wear of a valid plan in a zone, not divided by its denominator: at most 12 * 10^11.
func wearTimesDen(l []api.Stroke, p api.GrindPlan, zone int) int {
	sum := 0
	for i, minutes := range p.Minutes {
		sum += minutes * l[i].Wear[zone]
	}
	return sum
}

// WearBy is the ranges of the wear of a plan, zone by zone.
func WearBy(l []api.Stroke, p api.GrindPlan) ([]api.Range, api.Errno) {
	if e := firstOf(validStrokes(l), validPlan(l, p)); e != api.OK {
		return nil, e
	}
	ranges := make([]api.Range, zonesOf(l))
	for zone := range ranges {
		sum := wearTimesDen(l, p, zone)
		ranges[zone] = api.Range{Lo: sum / p.Den, Hi: up(sum, p.Den)}
	}
	return ranges, api.OK
}

// CheckPlan is the time of a right plan, times its denominator; or the number of the first zone that is not right.
func CheckPlan(l []api.Stroke, d api.GrindDemand, p api.GrindPlan) (int, api.Errno) {
	if e := firstOf(validStrokes(l), validDemand(l, d), validPlan(l, p)); e != api.OK {
		return 0, e
	}
	for zone := range d.Low {
		if !isWithin(wearTimesDen(l, p, zone), d.Low[zone]*p.Den, d.High[zone]*p.Den) {
			return zone, api.ErrBreak
		}
	}
	time := 0
	for _, minutes := range p.Minutes {
		time += minutes
	}
	return time, api.OK
}

// validWeights makes the check of weights, for valid strokes.
func validWeights(l []api.Stroke, w api.GrindProof) check {
	return func() api.Errno {
		return firstOf(
			need(len(w.Low) == zonesOf(l) && len(w.High) == zonesOf(l), api.ErrShape),
			within(1, maxDen, w.Den),
			within(0, maxPlanned, w.Low...),
			within(0, maxPlanned, w.High...),
		)
	}
}

// pullsAtMost makes the check that the pull of valid weights on each stroke, times their denominator, is at most this.
func pullsAtMost(most int, l []api.Stroke, w api.GrindProof) check {
	return each(len(l), func(i int) api.Errno {
		pull := 0
		for zone, wear := range l[i].Wear {
			pull += wear * (w.Low[zone] - w.High[zone])
		}
		if pull > most {
			return api.ErrProof
		}
		return api.OK
	})
}

// boundTimesDen is the bound of valid weights, times their denominator: at most 4 * 10^14 in size.
func boundTimesDen(d api.GrindDemand, w api.GrindProof) int {
	bound := 0
	for zone := range d.Low {
		bound += w.Low[zone]*d.Low[zone] - w.High[zone]*d.High[zone]
	}
	return bound
}

// CheckProof is the bound that weights prove, times their denominator.
func CheckProof(l []api.Stroke, d api.GrindDemand, w api.GrindProof) (int, api.Errno) {
	e := firstOf(validStrokes(l), validDemand(l, d), validWeights(l, w), pullsAtMost(w.Den, l, w))
	if e != api.OK {
		return 0, e
	}
	return boundTimesDen(d, w), api.OK
}

// CheckRefusal is the bound of weights that refuse.
func CheckRefusal(l []api.Stroke, d api.GrindDemand, w api.GrindProof) (int, api.Errno) {
	e := firstOf(validStrokes(l), validDemand(l, d), validWeights(l, w), need(w.Den == 1, api.ErrForm), pullsAtMost(0, l, w))
	if e != api.OK {
		return 0, e
	}
	bound := boundTimesDen(d, w)
	if bound <= 0 {
		return 0, api.ErrProof
	}
	return bound, api.OK
}

// Compare holds the time of the plan of an answer against the bound of its weights.
func Compare(l []api.Stroke, d api.GrindDemand, x api.GrindAnswer) (int, api.Errno) {
	time, e := CheckPlan(l, d, x.Plan)
	if e != api.OK {
		return 0, e
	}
	bound, e := CheckProof(l, d, x.Weights)
	if e != api.OK {
		return 0, e
	}
	// A bound is at most the time, so only one far below 0 could be too great in size when it is multiplied; any bound
	// below 0 is less than the time.
	return cmp.Compare(time*x.Weights.Den, max(bound, -1)*x.Plan.Den), api.OK
}

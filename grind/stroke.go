package grind

import (
	"slices"

	"speculum/api"
)

const (
	maxWear    = 100   // wear of a stroke in a minute
	maxDemand  = 10000 // wear of a demand
	maxMinutes = 10000 // minutes of a session
)

// CheckStrokes is the number of zones of strokes.
func CheckStrokes(l []api.Stroke) (int, api.Errno) {
	known := map[string]bool{}
	e := firstOf(
		need(len(l) > 0, api.ErrShape),
		need(len(l) <= api.MaxStrokes, api.ErrLarge),
		each(len(l), func(i int) api.Errno {
			isKnown, zones := known[l[i].Name], len(l[i].Wear)
			known[l[i].Name] = true
			return firstOf(
				named(l[i].Name),
				need(!isKnown, api.ErrExists),
				need(zones == len(l[0].Wear) && isWithin(zones, 1, api.MaxZones), api.ErrShape),
				within(0, maxWear, l[i].Wear...),
			)
		}),
	)
	if e != api.OK {
		return 0, e
	}
	return zonesOf(l), api.OK
}

// zonesOf is the number of zones of valid strokes.
func zonesOf(l []api.Stroke) int {
	return len(l[0].Wear)
}

// validStrokes makes the check of strokes.
func validStrokes(l []api.Stroke) check {
	return func() api.Errno {
		_, e := CheckStrokes(l)
		return e
	}
}

// validDemand makes the check of a demand, for valid strokes.
func validDemand(l []api.Stroke, d api.GrindDemand) check {
	return func() api.Errno {
		return firstOf(
			need(len(d.Low) == zonesOf(l) && len(d.High) == zonesOf(l), api.ErrShape),
			each(zonesOf(l), func(zone int) api.Errno {
				return firstOf(
					within(0, maxDemand, d.Low[zone], d.High[zone]),
					need(d.High[zone] >= d.Low[zone], api.ErrOrder),
				)
			}),
		)
	}
}

// CheckDemand tells whether a demand is valid.
func CheckDemand(l []api.Stroke, d api.GrindDemand) api.Errno {
	return firstOf(validStrokes(l), validDemand(l, d))
}

// wearByName is the wear of strokes by their names.
func wearByName(l []api.Stroke) map[string][]int {
	wear := map[string][]int{}
	for _, s := range l {
		wear[s.Name] = s.Wear
	}
	return wear
}

// validSessions makes the check of sessions, for valid strokes.
func validSessions(l []api.Stroke, s []api.GrindSession) check {
	return func() api.Errno {
		wear := wearByName(l)
		return firstOf(
			need(len(s) <= api.MaxGrindSessions, api.ErrLarge),
			each(len(s), func(i int) api.Errno {
				_, isKnown := wear[s[i].Stroke]
				return firstOf(
					named(s[i].Mirror),
					need(isKnown, api.ErrMissing),
					within(1, maxMinutes, s[i].Minutes),
				)
			}),
		)
	}
}

// CheckSessions tells whether sessions are valid.
func CheckSessions(l []api.Stroke, s []api.GrindSession) api.Errno {
	return firstOf(validStrokes(l), validSessions(l, s))
}

// wearOf is the wear of a mirror by valid sessions.
func wearOf(l []api.Stroke, s []api.GrindSession, mirror string) []int {
	byName, sum := wearByName(l), make([]int, zonesOf(l))
	for _, x := range s {
		if x.Mirror != mirror {
			continue
		}
		for zone, wear := range byName[x.Stroke] {
			sum[zone] += x.Minutes * wear
		}
	}
	return sum
}

// WearOf is the wear of a mirror, zone by zone.
func WearOf(l []api.Stroke, s []api.GrindSession, mirror string) ([]int, api.Errno) {
	if e := firstOf(validStrokes(l), validSessions(l, s), named(mirror)); e != api.OK {
		return nil, e
	}
	return wearOf(l, s, mirror), api.OK
}

// withinHigh makes the check that the wear of a mirror by valid sessions is nowhere greater than the demand's High.
func withinHigh(l []api.Stroke, d api.GrindDemand, s []api.GrindSession, mirror string) check {
	return func() api.Errno {
		for zone, wear := range wearOf(l, s, mirror) {
			if wear > d.High[zone] {
				return api.ErrBreak
			}
		}
		return api.OK
	}
}

// AddSession is the sessions with one more behind them.
func AddSession(l []api.Stroke, d api.GrindDemand, s []api.GrindSession, x api.GrindSession) ([]api.GrindSession, api.Errno) {
	if e := firstOf(validStrokes(l), validDemand(l, d), validSessions(l, s)); e != api.OK {
		return nil, e
	}
	more := append(slices.Clone(s), x)
	if e := firstOf(validSessions(l, more), withinHigh(l, d, more, x.Mirror)); e != api.OK {
		return nil, e
	}
	return more, api.OK
}

// LeftFor is the demand that is left for a mirror.
func LeftFor(l []api.Stroke, d api.GrindDemand, s []api.GrindSession, mirror string) (api.GrindDemand, api.Errno) {
	e := firstOf(validStrokes(l), validDemand(l, d), validSessions(l, s), named(mirror), withinHigh(l, d, s, mirror))
	if e != api.OK {
		return api.GrindDemand{}, e
	}
	left := api.GrindDemand{Low: slices.Clone(d.Low), High: slices.Clone(d.High)}
	for zone, wear := range wearOf(l, s, mirror) {
		left.Low[zone] = max(0, left.Low[zone]-wear)
		left.High[zone] -= wear
	}
	return left, api.OK
}

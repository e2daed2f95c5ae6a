package figure

import (
	"slices"

	"speculum/api"
)

// The answers about a mirror.
const (
	refused   = -1
	undecided = 0
	accepted  = 1
)

const maxWidth = 200 // ranges of which each height is tried

// checkAcceptance is the error of an enclosure, or of a tolerance.
func checkAcceptance(l []api.Range, t api.FigureTolerance) api.Errno {
	if e := CheckEnclosure(l); e != api.OK {
		return e
	}
	return CheckTolerance(t)
}

// Judge is the answer about a mirror, and if it is refused the first pair of zones that proves this.
func Judge(l []api.Range, t api.FigureTolerance) (int, [2]int, api.Errno) {
	if e := checkAcceptance(l, t); e != api.OK {
		return 0, [2]int{}, e
	}
	answer, pair := judge(l, t)
	return answer, pair, api.OK
}

// judge is Judge of what is valid.
func judge(l []api.Range, t api.FigureTolerance) (int, [2]int) {
	answer := accepted
	for i, j := range pairs(len(l)) {
		if refuses(l, t, i, j) {
			return refused, [2]int{i, j}
		}
		if mostApart(l, i, j) > bound(t, i, j) {
			answer = undecided
		}
	}
	return answer, [2]int{}
}

// refuses tells whether two zones prove that no surface meets a tolerance.
func refuses(l []api.Range, t api.FigureTolerance, i, j int) bool {
	return leastApart(l, i, j) > bound(t, i, j)
}

// CheckRefused tells whether a pair of zones proves that no surface meets a tolerance.
func CheckRefused(l []api.Range, t api.FigureTolerance, pair [2]int) api.Errno {
	if e := checkAcceptance(l, t); e != api.OK {
		return e
	}
	for _, zone := range pair {
		if !isWithin(zone, 0, len(l)-1) {
			return api.ErrMissing
		}
	}
	if pair[0] == pair[1] {
		return api.ErrForm
	}
	if !refuses(l, t, pair[0], pair[1]) {
		return api.ErrProof
	}
	return api.OK
}

// Surface is the lowest surface that meets a tolerance: no zone is below its own range, or by more than their bound below
// that of another one.
func Surface(l []api.Range, t api.FigureTolerance) ([]int, api.Errno) {
	answer, _, e := Judge(l, t)
	if e != api.OK {
		return nil, e
	}
	if answer == refused {
		return nil, api.ErrNone
	}
	heights := make([]int, len(l))
	for zone, r := range l {
		heights[zone] = r.Lo
	}
	for i, j := range pairs(len(l)) {
		heights[i] = max(heights[i], l[j].Lo-bound(t, i, j))
	}
	return heights, api.OK
}

// Deciding is the first zone whose exact height would decide about a mirror.
func Deciding(l []api.Range, t api.FigureTolerance) (int, api.Errno) {
	answer, _, e := Judge(l, t)
	if e != api.OK {
		return 0, e
	}
	if answer != undecided {
		return 0, api.ErrState
	}
	if slices.ContainsFunc(l, func(r api.Range) bool { return r.Hi-r.Lo > maxWidth }) {
		return 0, api.ErrLarge
	}
	for zone := range l {
		if decides(l, t, zone) {
			return zone, api.OK
		}
	}
	return 0, api.ErrNone
}

// decides tells whether no height of a zone leaves a mirror undecided.
func decides(l []api.Range, t api.FigureTolerance, zone int) bool {
	known := slices.Clone(l)
	for height := l[zone].Lo; height <= l[zone].Hi; height++ {
		known[zone] = api.Range{Lo: height, Hi: height}
		if answer, _ := judge(known, t); answer == undecided {
			return false
		}
	}
	return true
}

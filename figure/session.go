package figure

import (
	"slices"

	"speculum/api"
)

const (
	maxKinds = 6
	maxMost  = 100 // sessions of a kind
)

// checkHeights is the error of heights.
func checkHeights(heights []int) api.Errno {
	if !isWithin(len(heights), 1, api.MaxZones) {
		return api.ErrShape
	}
	if !areHeights(heights...) {
		return api.ErrRange
	}
	return api.OK
}

// checkWanted is the error of heights, or of those that are wanted.
func checkWanted(heights, wanted []int) api.Errno {
	if e := checkHeights(heights); e != api.OK {
		return e
	}
	if len(wanted) != len(heights) {
		return api.ErrShape
	}
	return checkHeights(wanted)
}

// checkWear is the error of wear.
func checkWear(heights, wear []int) api.Errno {
	if len(wear) != len(heights) {
		return api.ErrShape
	}
	for _, depth := range wear {
		if !isWithin(depth, 0, api.MaxFigure) {
			return api.ErrRange
		}
	}
	return api.OK
}

// worn is what remains of heights behind one session.
func worn(heights, wear []int) []int {
	left := make([]int, len(heights))
	for zone, height := range heights {
		left[zone] = height - wear[zone]
	}
	return left
}

// isBelow tells whether heights are below the wanted ones at some zone.
func isBelow(heights, wanted []int) bool {
	for zone, height := range heights {
		if height < wanted[zone] {
			return true
		}
	}
	return false
}

// Remaining is what remains of heights behind all sessions.
func Remaining(heights []int, wear [][]int) ([]int, api.Errno) {
	if e := checkHeights(heights); e != api.OK {
		return nil, e
	}
	if len(wear) > api.MaxFigureSessions {
		return nil, api.ErrLarge
	}
	left := slices.Clone(heights)
	for _, session := range wear {
		if e := checkWear(heights, session); e != api.OK {
			return nil, e
		}
		left = worn(left, session)
	}
	return left, api.OK
}

// CheckSessions tells whether sessions never dig. Beside the error of a session it tells its number.
func CheckSessions(heights, wanted []int, wear [][]int) (int, api.Errno) {
	if e := checkWanted(heights, wanted); e != api.OK {
		return 0, e
	}
	if len(wear) > api.MaxFigureSessions {
		return 0, api.ErrLarge
	}
	if isBelow(heights, wanted) {
		return -1, api.ErrBreak
	}
	left := heights
	for number, session := range wear {
		if e := checkWear(heights, session); e != api.OK {
			return number, e
		}
		left = worn(left, session)
		if isBelow(left, wanted) {
			return number, api.ErrBreak
		}
	}
	return 0, api.OK
}

// MostTimes is how often a session can be made without digging.
func MostTimes(heights, wanted, wear []int) (int, api.Errno) {
	if e := checkWanted(heights, wanted); e != api.OK {
		return 0, e
	}
	if e := checkWear(heights, wear); e != api.OK {
		return 0, e
	}
	if isBelow(heights, wanted) {
		return 0, api.ErrBreak
	}
	most, hasEnd := 0, false
	for zone, depth := range wear {
		if depth == 0 {
			continue
		}
		times := (heights[zone] - wanted[zone]) / depth
		if !hasEnd || times < most {
			most, hasEnd = times, true
		}
	}
	if !hasEnd {
		return 0, api.ErrNone
	}
	return most, api.OK
}

// checkKinds is the error of kinds of sessions.
func checkKinds(heights []int, k api.WearKinds) api.Errno {
	if !isWithin(len(k.Wear), 1, maxKinds) {
		return api.ErrShape
	}
	for _, wear := range k.Wear {
		if e := checkWear(heights, wear); e != api.OK {
			return e
		}
	}
	if !isWithin(k.Most, 0, maxMost) || !isWithin(k.Tolerance, 0, api.MaxFigure) {
		return api.ErrRange
	}
	lists := 1
	for range k.Wear {
		lists *= k.Most + 1
	}
	if lists > api.MaxCounted {
		return api.ErrLarge
	}
	return api.OK
}

// FewestSessions is how often each kind of sessions is made, to come down to the wanted heights with the fewest ones.
func FewestSessions(heights, wanted []int, k api.WearKinds) ([]int, api.Errno) {
	if e := checkWanted(heights, wanted); e != api.OK {
		return nil, e
	}
	if e := checkKinds(heights, k); e != api.OK {
		return nil, e
	}
	fewest, ok := fewestOf(heights, wanted, k)
	if !ok {
		return nil, api.ErrNone
	}
	return fewest, api.OK
}

// fewestOf is the first one of the lists with the fewest sessions, if there is one. Whatever the first kind is made, the
// others follow with the fewest sessions that then are enough.
func fewestOf(left, wanted []int, k api.WearKinds) ([]int, bool) {
	if len(k.Wear) == 0 {
		return nil, isReached(left, wanted, k.Tolerance)
	}
	others := api.WearKinds{Wear: k.Wear[1:], Most: k.Most, Tolerance: k.Tolerance}
	var fewest []int
	for times := range k.Most + 1 {
		if isBelow(left, wanted) { // more sessions only dig deeper
			break
		}
		rest, ok := fewestOf(left, wanted, others)
		if list := append([]int{times}, rest...); ok && (fewest == nil || total(list) < total(fewest)) {
			fewest = list
		}
		left = worn(left, k.Wear[0])
	}
	return fewest, fewest != nil
}

// isReached tells whether heights are at least the wanted ones, and at most the tolerance above them.
func isReached(heights, wanted []int, tolerance int) bool {
	for zone, height := range heights {
		if !isWithin(height-wanted[zone], 0, tolerance) {
			return false
		}
	}
	return true
}

func total(numbers []int) int {
	sum := 0
	for _, n := range numbers {
		sum += n
	}
	return sum
}

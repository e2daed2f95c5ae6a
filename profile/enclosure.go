package profile

import (
	"slices"

	"speculum/api"
)

const maxCircle = 40 // signed readings of a circle

// Enclosure is the narrowest range of the height of each zone less that of zone 0, or a circle of readings that
// contradict each other.
func Enclosure(zones int, l []api.HeightReading) ([]api.Range, []int, api.Errno) {
	w, e := joined(zones, l)
	if e == api.ErrClash {
		return nil, newWeb(zones, l).circle(), e
	}
	if e != api.OK {
		return nil, nil, e
	}
	ranges := make([]api.Range, zones)
	for zone := range zones {
		ranges[zone], _ = w.between(0, zone)
	}
	return ranges, nil, api.OK
}

// CheckClash is the sum of a circle of readings, if it proves that they contradict each other.
func CheckClash(zones int, l []api.HeightReading, circle []int) (int, api.Errno) {
	if e := CheckReadings(zones, l); e != api.OK {
		return 0, e
	}
	if !isWithin(len(circle), 1, maxCircle) {
		return 0, api.ErrShape
	}
	for _, signed := range circle {
		if signed == 0 || !areSmall(len(l), signed) {
			return 0, api.ErrMissing
		}
	}
	sum, at := 0, legOf(l, circle[len(circle)-1]).to
	for _, signed := range circle {
		g := legOf(l, signed)
		if g.from != at {
			return 0, api.ErrOpen
		}
		sum, at = sum+g.length, g.to
	}
	if sum >= 0 {
		return 0, api.ErrProof
	}
	return sum, api.OK
}

// checkPair is the error of CheckReadings, or of two zones.
func checkPair(zones int, l []api.HeightReading, pair [2]int) api.Errno {
	if e := CheckReadings(zones, l); e != api.OK {
		return e
	}
	if !areZones(zones, pair[0], pair[1]) {
		return api.ErrMissing
	}
	return api.OK
}

// Between is the narrowest range of the height of the second zone of a pair less that of the first one.
func Between(zones int, l []api.HeightReading, pair [2]int) (api.Range, api.Errno) {
	if e := checkPair(zones, l, pair); e != api.OK {
		return api.Range{}, e
	}
	w, e := agreeing(zones, l)
	if e != api.OK {
		return api.Range{}, e
	}
	r, ok := w.between(pair[0], pair[1])
	if !ok {
		return api.Range{}, api.ErrOpen
	}
	return r, api.OK
}

// Reaching is a profile that reaches the upper end of the range of a pair of zones, as it does for the first zone of the
// pair with any other one.
func Reaching(zones int, l []api.HeightReading, pair [2]int) ([]int, api.Errno) {
	if e := checkPair(zones, l, pair); e != api.OK {
		return nil, e
	}
	w, e := joined(zones, l)
	if e != api.OK {
		return nil, e
	}
	heights := w.from(pair[0])
	atZero := heights[0]
	for zone := range heights {
		heights[zone] -= atZero
	}
	return heights, api.OK
}

// Widest is the first two zones whose range is widest.
func Widest(zones int, l []api.HeightReading) ([2]int, api.Errno) {
	w, e := joined(zones, l)
	if e != api.OK {
		return [2]int{}, e
	}
	if zones == 1 {
		return [2]int{}, api.ErrNone
	}
	var d [][]int
	for zone := range zones {
		d = append(d, w.from(zone))
	}
	widest, width := [2]int{}, -1
	for a := range zones {
		for b := a + 1; b < zones; b++ {
			if d[a][b]+d[b][a] > width {
				widest, width = [2]int{a, b}, d[a][b]+d[b][a]
			}
		}
	}
	return widest, api.OK
}

// Needless is the numbers of the readings that say nothing more than those that are left, gone through from the last
// one to the first one.
func Needless(zones int, l []api.HeightReading) ([]int, api.Errno) {
	if _, e := agreeing(zones, l); e != api.OK {
		return nil, e
	}
	var needless []int
	left := slices.Clone(l)
	for i, r := range slices.Backward(l) {
		without := slices.Delete(slices.Clone(left), i, i+1)
		known, ok := newWeb(zones, without).between(r.From, r.To)
		if ok && known.Lo >= r.Diff.Lo && known.Hi <= r.Diff.Hi {
			left, needless = without, append(needless, i)
		}
	}
	slices.Reverse(needless)
	return needless, api.OK
}

// Gain is by how much a reading makes the enclosure narrower, all its ranges together.
func Gain(zones int, l []api.HeightReading, r api.HeightReading) (int, api.Errno) {
	before, _, e := Enclosure(zones, l)
	if e != api.OK {
		return 0, e
	}
	more, e := AddReading(zones, l, r)
	if e != api.OK {
		return 0, e
	}
	after, _, _ := Enclosure(zones, more) // one more reading opens nothing
	return width(before) - width(after), api.OK
}

// width is the sum of the widths of ranges.
func width(ranges []api.Range) int {
	sum := 0
	for _, r := range ranges {
		sum += r.Hi - r.Lo
	}
	return sum
}

package profile

import (
	"slices"

	"speculum/api"
)

const maxProfile = 100000000 // heights that are checked, in size

// CheckReadings tells whether readings of so many zones are valid.
func CheckReadings(zones int, l []api.HeightReading) api.Errno {
	if !isWithin(zones, 1, api.MaxZones) {
		return api.ErrRange
	}
	if len(l) > api.MaxReadings {
		return api.ErrLarge
	}
	for _, r := range l {
		if e := checkReading(zones, r); e != api.OK {
			return e
		}
	}
	return api.OK
}

func checkReading(zones int, r api.HeightReading) api.Errno {
	switch {
	case !areZones(zones, r.From, r.To):
		return api.ErrMissing
	case r.From == r.To:
		return api.ErrForm
	case !areSmall(api.MaxHeight, r.Diff.Lo, r.Diff.Hi):
		return api.ErrRange
	case r.Diff.Lo > r.Diff.Hi:
		return api.ErrOrder
	}
	return api.OK
}

// areZones tells whether there are zones with these two numbers.
func areZones(zones, a, b int) bool {
	return isWithin(a, 0, zones-1) && isWithin(b, 0, zones-1)
}

// AddReading is the readings with one more behind them.
func AddReading(zones int, l []api.HeightReading, r api.HeightReading) ([]api.HeightReading, api.Errno) {
	if _, e := agreeing(zones, l); e != api.OK {
		return nil, e
	}
	more := append(slices.Clone(l), r)
	if _, e := agreeing(zones, more); e != api.OK {
		return nil, e
	}
	return more, api.OK
}

// CheckHeights tells whether heights keep all readings, with the number of the first one that they do not keep.
func CheckHeights(zones int, l []api.HeightReading, heights []int) (int, api.Errno) {
	if e := CheckReadings(zones, l); e != api.OK {
		return 0, e
	}
	if len(heights) != zones {
		return 0, api.ErrShape
	}
	if !areSmall(maxProfile, heights...) {
		return 0, api.ErrRange
	}
	for i, r := range l {
		if !isWithin(heights[r.To]-heights[r.From], r.Diff.Lo, r.Diff.Hi) {
			return i, api.ErrBreak
		}
	}
	return 0, api.OK
}

package support

import (
	"speculum/api"
	"speculum/number"
)

const (
	maxBend   = 10000  // numbers of a table, in size
	maxWeight = 100000 // newtons
)

// CheckTable is the first error of a table of deflections.
func CheckTable(t [][]int) api.Errno {
	if !areWithin(1, api.MaxZones, len(t)) {
		return api.ErrShape
	}
	for _, row := range t {
		if len(row) != len(t[0]) {
			return api.ErrShape
		}
	}
	if len(t[0]) > api.MaxRockers+1 {
		return api.ErrLarge
	}
	for _, row := range t {
		if !areWithin(-maxBend, maxBend, row...) {
			return api.ErrRange
		}
	}
	return api.OK
}

// Deflections is the range of each zone's deflection under a weight that the rockers bear.
func Deflections(t [][]int, l []api.Rocker, weight int) ([]api.Range, api.Errno) {
	if e := CheckTable(t); e != api.OK {
		return nil, e
	}
	bearing, e := treeFor(l, len(t[0]))
	if e != api.OK {
		return nil, e
	}
	if !areWithin(0, maxWeight, weight) {
		return nil, api.ErrRange
	}
	shares, e := bearing.shares()
	if e != api.OK {
		return nil, e
	}
	zones := make([]api.Range, len(t))
	for zone, row := range t {
		zones[zone] = bent(row, weight, shares)
	}
	return zones, api.OK
}

// bent is the range of a zone's deflection. A product is at most 10^18 in size, rounded 10^9, as a share is at most 1.
func bent(row []int, weight int, shares []api.Frac) api.Range {
	var sum api.Range
	for point, f := range shares {
		r := rounded(row[point]*weight*f.Num, f.Den)
		sum.Lo += r.Lo
		sum.Hi += r.Hi
	}
	return sum
}

// PeakToValley is the range of the greatest less the least number of ranges.
func PeakToValley(l []api.Range) (api.Range, api.Errno) {
	if !areWithin(1, api.MaxZones, len(l)) {
		return api.Range{}, api.ErrShape
	}
	for _, r := range l {
		if e := number.CheckRange(r); e != api.OK {
			return api.Range{}, e
		}
	}
	var apart api.Range
	for i, high := range l {
		for j, low := range l {
			// A zone is not the highest and the lowest one.
			if i != j {
				apart.Lo = max(apart.Lo, high.Lo-low.Hi)
				apart.Hi = max(apart.Hi, high.Hi-low.Lo)
			}
		}
	}
	if number.CheckRange(apart) != api.OK {
		return api.Range{}, api.ErrLarge
	}
	return apart, api.OK
}

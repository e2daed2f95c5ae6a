package coat

import (
	"speculum/api"
	"speculum/number"
)

const maxGrowth = 1000000 // rates and wants of zones

// CheckMask is the first error of a mask.
func CheckMask(mask []int) api.Errno {
	if !areWithin(1, api.MaxZones, len(mask)) {
		return api.ErrShape
	}
	if !areWithin(0, thousand, mask...) {
		return api.ErrRange
	}
	return api.OK
}

// Through is what the zones behind a mask have of a thickness. On the way it is at most 10^18.
func Through(t api.Range, mask []int) ([]api.Range, api.Errno) {
	if e := number.CheckRange(t); e != api.OK {
		return nil, e
	}
	if t.Lo < 0 {
		return nil, api.ErrRange
	}
	if e := CheckMask(mask); e != api.OK {
		return nil, e
	}
	zones := make([]api.Range, len(mask))
	for zone, opening := range mask {
		zones[zone] = outward(t.Lo*opening, t.Hi*opening, thousand)
	}
	return zones, api.OK
}

// MaskFor is the mask with which zones that grow at these rates grow as they are wanted to in proportion. On the way
// its openings are at most 10^15.
func MaskFor(rates, wants []int) ([]int, api.Errno) {
	if !areWithin(1, api.MaxZones, len(rates)) || len(wants) != len(rates) {
		return nil, api.ErrShape
	}
	if !areWithin(1, maxGrowth, rates...) || !areWithin(1, maxGrowth, wants...) {
		return nil, api.ErrRange
	}
	longest := 0 // the zone that is to be open for the longest time
	for zone, want := range wants {
		if want*rates[longest] > wants[longest]*rates[zone] {
			longest = zone
		}
	}
	mask := make([]int, len(rates))
	for zone, want := range wants {
		mask[zone] = thousand * want * rates[longest] / (rates[zone] * wants[longest])
	}
	return mask, api.OK
}

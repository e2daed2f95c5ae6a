package support

import (
	"speculum/api"
	"speculum/number"
)

// CheckTrain is the first error of a train.
func CheckTrain(l []api.GearPair) api.Errno {
	if len(l) > api.MaxPairs {
		return api.ErrLarge
	}
	for _, g := range l {
		if !areWithin(1, api.MaxTeeth, g.Driver, g.Driven) {
			return api.ErrRange
		}
	}
	return api.OK
}

// ratioOf is how often the driven gear turns for one turn of the driver.
func ratioOf(g api.GearPair) api.Frac {
	return lowest(g.Driver, g.Driven)
}

// products is the products of the ratios of none, one, two and more pairs, up to all, from the first one on.
func products(l []api.GearPair) ([]api.Frac, api.Errno) {
	ratios := []api.Frac{one()}
	for i, g := range l {
		ratio, e := number.Mul(ratios[i], ratioOf(g))
		if e != api.OK {
			return nil, e
		}
		ratios = append(ratios, ratio)
	}
	return ratios, api.OK
}

// beginnings is the ratios of the beginnings of a train, from none of its pairs to all.
func beginnings(l []api.GearPair) ([]api.Frac, api.Errno) {
	if e := CheckTrain(l); e != api.OK {
		return nil, e
	}
	return products(l)
}

// Ratio is how often the last axis turns for one turn of the first one.
func Ratio(l []api.GearPair) (api.Frac, api.Errno) {
	ratios, e := beginnings(l)
	if e != api.OK {
		return api.Frac{}, e
	}
	return ratios[len(l)], api.OK
}

// MeetAgain is after how many turns of the driver the same two teeth meet again.
func MeetAgain(g api.GearPair) (int, api.Errno) {
	if e := CheckTrain([]api.GearPair{g}); e != api.OK {
		return 0, e
	}
	return ratioOf(g).Den, api.OK
}

// Returns is after how many turns of the first axis all axes have made whole turns: the least common multiple of the
// denominators of their ratios. On the way it is at most 10^18.
func Returns(l []api.GearPair) (int, api.Errno) {
	ratios, e := beginnings(l)
	if e != api.OK {
		return 0, e
	}
	turns := 1
	for _, f := range ratios {
		turns *= f.Den / divisor(turns, f.Den)
		if turns > api.MaxPart {
			return 0, api.ErrLarge
		}
	}
	return turns, api.OK
}

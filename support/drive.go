package support

import (
	"slices"

	"speculum/api"
	"speculum/number"
)

const (
	maxDrive = 1000000 // steps, also of a turn
	maxTime  = 1000000 // seconds
	maxError = 1000000 // periodic errors of gears
)

// sky is by how many arc seconds the sky turns in 1000 seconds.
func sky() api.Frac {
	return api.Frac{Num: 324000000, Den: 21541}
}

// quotient is the product of the numbers over divided by that of the numbers under, if this is small; all are above 0.
// It takes all common divisors out of them, as their products alone might be greater than an int.
func quotient(over, under []int) (api.Frac, api.Errno) {
	for i := range over {
		for j := range under {
			d := divisor(over[i], under[j])
			over[i] /= d
			under[j] /= d
		}
	}
	num, isNum := product(over)
	den, isDen := product(under)
	if !isNum || !isDen {
		return api.Frac{}, api.ErrLarge
	}
	return api.Frac{Num: num, Den: den}, api.OK
}

// product is the product of numbers above 0. It reports false if this is too great for a part of a small fraction.
func product(factors []int) (int, bool) {
	result := 1
	for _, n := range factors {
		if n > api.MaxPart/result {
			return 0, false
		}
		result *= n
	}
	return result, true
}

// Rate is how many arc seconds the last axis turns in 1000 seconds.
func Rate(l []api.GearPair, steps, perTurn int) (api.Frac, api.Errno) {
	ratio, e := Ratio(l)
	if e != api.OK {
		return api.Frac{}, e
	}
	if !areWithin(1, maxDrive, steps, perTurn) {
		return api.Frac{}, api.ErrRange
	}
	return quotient([]int{api.Turn, steps, ratio.Num}, []int{perTurn, ratio.Den})
}

// Drift is what a drive is ahead of the sky after some seconds. On the way its parts are at most 10^15 in size.
func Drift(l []api.GearPair, drive [2]int, seconds int) (api.Range, api.Errno) {
	rate, e := Rate(l, drive[0], drive[1])
	if e != api.OK {
		return api.Range{}, e
	}
	if !areWithin(0, maxTime, seconds) {
		return api.Range{}, api.ErrRange
	}
	ahead, e := number.Sub(rate, sky())
	if e != api.OK {
		return api.Range{}, e
	}
	return rounded(ahead.Num*seconds, ahead.Den*1000), api.OK
}

// Periodic is the greatest periodic error of the last axis. An error times a ratio is at most 10^15.
func Periodic(l []api.GearPair, errors []int) (int, api.Errno) {
	if e := CheckTrain(l); e != api.OK {
		return 0, e
	}
	if len(errors) != len(l) {
		return 0, api.ErrShape
	}
	if !areWithin(0, maxError, errors...) {
		return 0, api.ErrRange
	}
	backward := slices.Clone(l)
	slices.Reverse(backward)
	ends, e := products(backward)
	if e != api.OK {
		return 0, e
	}
	sum := 0
	for i, n := range errors {
		behind := ends[len(l)-1-i]
		sum += rounded(n*behind.Num, behind.Den).Hi
	}
	return sum, api.OK
}

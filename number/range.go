package number

import "speculum/api"

// CheckRange tells whether a range is valid.
func CheckRange(r api.Range) api.Errno {
	if size(r.Lo) > api.MaxNumber || size(r.Hi) > api.MaxNumber {
		return api.ErrRange
	}
	if r.Lo > r.Hi {
		return api.ErrOrder
	}
	return api.OK
}

// checkRanges is the first error of any number of ranges.
func checkRanges(ranges ...api.Range) api.Errno {
	for _, r := range ranges {
		if e := CheckRange(r); e != api.OK {
			return e
		}
	}
	return api.OK
}

// notLarge is the range from lo to hi, if its ends are not too great.
func notLarge(lo, hi int) (api.Range, api.Errno) {
	r := api.Range{Lo: lo, Hi: hi}
	if CheckRange(r) != api.OK {
		return api.Range{}, api.ErrLarge
	}
	return r, api.OK
}

// Plus is the range of the sums.
func Plus(a, b api.Range) (api.Range, api.Errno) {
	if e := checkRanges(a, b); e != api.OK {
		return api.Range{}, e
	}
	return notLarge(a.Lo+b.Lo, a.Hi+b.Hi)
}

// Minus is the range of the differences, a number of a less one of b.
func Minus(a, b api.Range) (api.Range, api.Errno) {
	if e := checkRanges(a, b); e != api.OK {
		return api.Range{}, e
	}
	return notLarge(a.Lo-b.Hi, a.Hi-b.Lo)
}

// Product is the range of the products. The least and the greatest one are products of ends.
func Product(a, b api.Range) (api.Range, api.Errno) {
	if e := checkRanges(a, b); e != api.OK {
		return api.Range{}, e
	}
	var ends [4]int
	for i, x := range [2]int{a.Lo, a.Hi} {
		for j, y := range [2]int{b.Lo, b.Hi} {
			end, ok := enclose(x, y, 1)
			if !ok {
				return api.Range{}, api.ErrLarge
			}
			ends[2*i+j] = end.Lo
		}
	}
	return api.Range{
		Lo: min(ends[0], ends[1], ends[2], ends[3]),
		Hi: max(ends[0], ends[1], ends[2], ends[3]),
	}, api.OK
}

// Scaled is the least range that contains the numbers of r multiplied by a fraction.
func Scaled(r api.Range, by api.Frac) (api.Range, api.Errno) {
	if e := checkRanges(r); e != api.OK {
		return api.Range{}, e
	}
	if e := checkFracs(by); e != api.OK {
		return api.Range{}, e
	}
	lo, loFits := enclose(r.Lo, by.Num, by.Den)
	hi, hiFits := enclose(r.Hi, by.Num, by.Den)
	if !loFits || !hiFits {
		return api.Range{}, api.ErrLarge
	}
	return Hull(lo, hi)
}

// RootOf is the least range that contains the square roots of the numbers of r.
func RootOf(r api.Range) (api.Range, api.Errno) {
	if e := checkRanges(r); e != api.OK {
		return api.Range{}, e
	}
	if r.Lo < 0 {
		return api.Range{}, api.ErrRange
	}
	return api.Range{Lo: squareRoot(r.Lo, 1).Lo, Hi: squareRoot(r.Hi, 1).Hi}, api.OK
}

// Meet is the range of the numbers that are in both.
func Meet(a, b api.Range) (api.Range, api.Errno) {
	if e := checkRanges(a, b); e != api.OK {
		return api.Range{}, e
	}
	r := api.Range{Lo: max(a.Lo, b.Lo), Hi: min(a.Hi, b.Hi)}
	if r.Lo > r.Hi {
		return api.Range{}, api.ErrNone
	}
	return r, api.OK
}

// Hull is the least range that contains both.
func Hull(a, b api.Range) (api.Range, api.Errno) {
	if e := checkRanges(a, b); e != api.OK {
		return api.Range{}, e
	}
	return api.Range{Lo: min(a.Lo, b.Lo), Hi: max(a.Hi, b.Hi)}, api.OK
}

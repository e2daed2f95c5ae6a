package figure

import (
	"cmp"
	"slices"

	"speculum/api"
)

// SquareRange is the least and the greatest mean square of real heights within an enclosure.
func SquareRange(l []api.Range) ([2]api.Frac, api.Errno) {
	if e := CheckEnclosure(l); e != api.OK {
		return [2]api.Frac{}, e
	}
	if len(l) > api.MaxSquare {
		return [2]api.Frac{}, api.ErrLarge
	}
	return [2]api.Frac{leastSquare(l), greatestSquare(l)}, api.OK
}

// greatestSquare is the greatest mean square. It is one of ends of all ranges: between the ends of a range, the other
// heights being what they are, a mean square is not greater than at both.
func greatestSquare(l []api.Range) api.Frac {
	heights := make([]int, len(l))
	greatest := 0
	for choice := range 1 << len(l) {
		for zone, r := range l {
			heights[zone] = r.Lo
			if choice>>zone&1 == 1 {
				heights[zone] = r.Hi
			}
		}
		greatest = max(greatest, squareTimesDen(heights))
	}
	return lowest(greatest, len(l)*len(l))
}

// squareTimesDen is the mean square of n heights, times n^2.
func squareTimesDen(heights []int) int {
	squares := 0
	for _, height := range heights {
		squares += height * height
	}
	sum := total(heights)
	return len(heights)*squares - sum*sum
}

// leastSquare is the least mean square. The squares of heights about a point have their least mean about the mean of the
// heights, so what is looked for is the least mean of squares about any point, of the heights that come nearest to it.
// Where it is least, the heights that do not reach the point are ends of ranges, and the point is their mean. Which ends
// these are changes at ends of ranges only, so that it is enough to look just above each end.
func leastSquare(l []api.Range) api.Frac {
	var squares []api.Frac
	for _, r := range l {
		squares = append(squares, squareAbout(l, nearestMean(l, r.Lo)), squareAbout(l, nearestMean(l, r.Hi)))
	}
	return slices.MinFunc(squares, func(a, b api.Frac) int { return cmp.Compare(a.Num*b.Den, b.Num*a.Den) })
}

// nearestMean is the mean of the ends that come nearest to a point just above this height, or the height if all ranges
// reach further.
func nearestMean(l []api.Range, height int) api.Frac {
	var ends []int
	for _, r := range l {
		if r.Lo > height {
			ends = append(ends, r.Lo)
		} else if r.Hi <= height {
			ends = append(ends, r.Hi)
		}
	}
	if len(ends) == 0 {
		return lowest(height, 1)
	}
	return lowest(total(ends), len(ends))
}

// squareAbout is the mean of the squares about a point, of the heights that come nearest to it. Its numerator is less than
// 10^14.
func squareAbout(l []api.Range, point api.Frac) api.Frac {
	squares := 0
	for _, r := range l {
		apart := max(r.Lo*point.Den-point.Num, point.Num-r.Hi*point.Den, 0)
		squares += apart * apart
	}
	return lowest(squares, len(l)*point.Den*point.Den)
}

package point

import "speculum/api"

const (
	maxMove = 1000   // moves of a screw, in size
	maxOff  = 100000 // errors of a mirror, in size
)

// across is 0 if two moves lie on one line.
func across(a, b [2]int) int {
	return a[0]*b[1] - a[1]*b[0]
}

// CheckScrews is the first error of two screws.
func CheckScrews(l [][2]int) api.Errno {
	if len(l) != 2 {
		return api.ErrShape
	}
	if !areSmall(maxMove, l[0][:]...) || !areSmall(maxMove, l[1][:]...) {
		return api.ErrRange
	}
	if across(l[0], l[1]) == 0 {
		return api.ErrZero
	}
	return api.OK
}

// Collimate is by how much two screws have to be turned so that their moves and an error add up to 0.
func Collimate(l [][2]int, off [2]int) ([2]api.Frac, api.Errno) {
	if e := CheckScrews(l); e != api.OK {
		return [2]api.Frac{}, e
	}
	if !areSmall(maxOff, off[:]...) {
		return [2]api.Frac{}, api.ErrRange
	}
	all := across(l[0], l[1])
	return [2]api.Frac{lowest(across(l[1], off), all), lowest(across(off, l[0]), all)}, api.OK
}

// lowest is num / den in lowest terms; den is not 0.
func lowest(num, den int) api.Frac {
	d := divisor(num, den)
	if den < 0 {
		d = -d
	}
	return api.Frac{Num: num / d, Den: den / d}
}

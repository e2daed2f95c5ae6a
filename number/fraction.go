package number

import (
	"cmp"

	"speculum/api"
)

// maxRootTimes is the greatest multiple of a square root.
const maxRootTimes = 10000

// CheckFrac tells whether a fraction is valid.
func CheckFrac(f api.Frac) api.Errno {
	if f.Den <= 0 || divisor(size(f.Num), size(f.Den)) != 1 {
		return api.ErrForm
	}
	if size(f.Num) > api.MaxPart || f.Den > api.MaxPart {
		return api.ErrRange
	}
	return api.OK
}

// checkFracs is the first error of any number of fractions.
func checkFracs(fracs ...api.Frac) api.Errno {
	for _, f := range fracs {
		if e := CheckFrac(f); e != api.OK {
			return e
		}
	}
	return api.OK
}

// lowest is num / den in lowest terms; den is not 0.
func lowest(num, den int) (api.Frac, api.Errno) {
	if den < 0 {
		num, den = -num, -den
	}
	by := int(divisor(size(num), size(den)))
	f := api.Frac{Num: num / by, Den: den / by}
	if CheckFrac(f) != api.OK {
		return api.Frac{}, api.ErrLarge
	}
	return f, api.OK
}

// Products of parts of two valid fractions are at most 10^18 in size, and their sums 2 * 10^18: an int holds them.

// Add is the sum of two fractions.
func Add(a, b api.Frac) (api.Frac, api.Errno) {
	if e := checkFracs(a, b); e != api.OK {
		return api.Frac{}, e
	}
	return lowest(a.Num*b.Den+b.Num*a.Den, a.Den*b.Den)
}

// Sub is a less b.
func Sub(a, b api.Frac) (api.Frac, api.Errno) {
	if e := checkFracs(a, b); e != api.OK {
		return api.Frac{}, e
	}
	return lowest(a.Num*b.Den-b.Num*a.Den, a.Den*b.Den)
}

// Mul is the product of two fractions.
func Mul(a, b api.Frac) (api.Frac, api.Errno) {
	if e := checkFracs(a, b); e != api.OK {
		return api.Frac{}, e
	}
	return lowest(a.Num*b.Num, a.Den*b.Den)
}

// Quo is a divided by b.
func Quo(a, b api.Frac) (api.Frac, api.Errno) {
	if e := checkFracs(a, b); e != api.OK {
		return api.Frac{}, e
	}
	if b.Num == 0 {
		return api.Frac{}, api.ErrZero
	}
	return lowest(a.Num*b.Den, a.Den*b.Num)
}

// Cmp is -1, 0 or 1 as a is less than, equal to, or greater than b.
func Cmp(a, b api.Frac) (int, api.Errno) {
	if e := checkFracs(a, b); e != api.OK {
		return 0, e
	}
	return cmp.Compare(a.Num*b.Den, b.Num*a.Den), api.OK
}

// Whole is times multiplied by f, rounded down and up.
func Whole(f api.Frac, times int) (api.Range, api.Errno) {
	if e := checkFracs(f); e != api.OK {
		return api.Range{}, e
	}
	if times < 1 || times > api.MaxTimes {
		return api.Range{}, api.ErrRange
	}
	r, ok := enclose(times, f.Num, f.Den)
	if !ok {
		return api.Range{}, api.ErrLarge
	}
	return r, api.OK
}

// Sqrt is times multiplied by the square root of f, rounded down and up.
func Sqrt(f api.Frac, times int) (api.Range, api.Errno) {
	if e := checkFracs(f); e != api.OK {
		return api.Range{}, e
	}
	if f.Num < 0 || times < 1 || times > maxRootTimes {
		return api.Range{}, api.ErrRange
	}
	return squareRoot(times*times*f.Num, f.Den), api.OK
}

// squareRoot is the square root of num / den, rounded down and up; num is not below 0, den above it.
func squareRoot(num, den int) api.Range {
	low := wholeRoot(num / den)
	if low*low*den == num {
		return api.Range{Lo: low, Hi: low}
	}
	return api.Range{Lo: low, Hi: low + 1}
}

// wholeRoot is the square root of n, rounded down. Newton's steps from above go down to it, and no further.
func wholeRoot(n int) int {
	root := n
	for next := (root + 1) / 2; next < root; next = (root + n/root) / 2 {
		root = next
	}
	return root
}

package profile

import "speculum/api"

const (
	maxTerms  = 2
	maxTerm   = 100            // numbers of a term, in size
	maxFitted = 5000           // heights of a fit, in size
	maxDen    = 100000000000   // denominators of a fit
	maxNum    = 10000000000000 // numerators of a fit, in size
)

// checkFitted is the error of terms and heights.
func checkFitted(terms [][]int, heights []int) api.Errno {
	if !isWithin(len(heights), 1, api.MaxFitted) || !isWithin(len(terms), 1, maxTerms) {
		return api.ErrShape
	}
	for _, term := range terms {
		if len(term) != len(heights) {
			return api.ErrShape
		}
	}
	for _, term := range terms {
		if !areSmall(maxTerm, term...) {
			return api.ErrRange
		}
	}
	if !areSmall(maxFitted, heights...) {
		return api.ErrRange
	}
	return api.OK
}

// product is the sum of the products of numbers of two lists that are equally long.
func product(a, b []int) int {
	sum := 0
	for i, n := range a {
		sum += n * b[i]
	}
	return sum
}

// solve is the coefficients of one or two terms with a denominator, which is 0 if the terms depend on each other, and
// otherwise above it.
func solve(terms [][]int, heights []int) ([]int, int) {
	a := terms[0]
	if len(terms) == 1 {
		return []int{product(a, heights)}, product(a, a)
	}
	b := terms[1]
	aa, ab, bb := product(a, a), product(a, b), product(b, b)
	ah, bh := product(a, heights), product(b, heights)
	return []int{ah*bb - bh*ab, bh*aa - ah*ab}, aa*bb - ab*ab
}

// Fit is the coefficients of terms that come nearest to heights.
func Fit(terms [][]int, heights []int) (api.TermFit, api.Errno) {
	if e := checkFitted(terms, heights); e != api.OK {
		return api.TermFit{}, e
	}
	nums, den := solve(terms, heights)
	if den == 0 {
		return api.TermFit{}, api.ErrZero
	}
	d := divisor(append([]int{den}, nums...)...)
	for i := range nums {
		nums[i] /= d
	}
	return api.TermFit{Nums: nums, Den: den / d}, api.OK
}

// CheckFit tells whether a fit is one of terms to heights. No sum on its way is greater than 5 * 10^18.
func CheckFit(terms [][]int, heights []int, f api.TermFit) api.Errno {
	if e := checkFitted(terms, heights); e != api.OK {
		return e
	}
	if len(f.Nums) != len(terms) {
		return api.ErrShape
	}
	if !isWithin(f.Den, 1, maxDen) || !areSmall(maxNum, f.Nums...) {
		return api.ErrRange
	}
	if divisor(append([]int{f.Den}, f.Nums...)...) > 1 {
		return api.ErrForm
	}
	left := make([]int, len(heights))
	for zone, height := range heights {
		left[zone] = height * f.Den
		for i, term := range terms {
			left[zone] -= f.Nums[i] * term[zone]
		}
	}
	for _, term := range terms {
		if product(term, left) != 0 {
			return api.ErrProof
		}
	}
	return api.OK
}

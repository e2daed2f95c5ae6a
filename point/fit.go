package point

import (
	"slices"

	"speculum/api"
)

// vector has a number for each term.
type vector [api.MaxSkyTerms]int

// determinant is that of three columns. With the equations of a fit it is at most 5 * 10^17 on its way.
func determinant(columns [api.MaxSkyTerms]vector) int {
	a, b, c := columns[0], columns[1], columns[2]
	return a[0]*(b[1]*c[2]-b[2]*c[1]) + a[1]*(b[2]*c[0]-b[0]*c[2]) + a[2]*(b[0]*c[1]-b[1]*c[0])
}

// equations is the columns of the terms, and what these times the coefficients add up to: they say of each term that
// the sum of shape times residual is 0. There always are three terms: one that is not there is 0, by an equation of its
// own.
func equations(l []api.SkyStar, terms int) ([api.MaxSkyTerms]vector, vector) {
	var columns [api.MaxSkyTerms]vector
	var sums vector
	for _, s := range l {
		for i, shape := range s.Shapes {
			sums[i] += shape * s.Error
			for j, other := range s.Shapes {
				columns[j][i] += shape * other
			}
		}
	}
	for i := terms; i < len(columns); i++ {
		columns[i][i] = 1
	}
	return columns, sums
}

// Fit is the best model of stars.
func Fit(l []api.SkyStar) (api.SkyModel, api.Errno) {
	terms, e := CheckStars(l)
	if e != api.OK {
		return api.SkyModel{}, e
	}
	columns, sums := equations(l, terms)
	den := determinant(columns) // not below 0, as the equations are those of sums of squares
	if den == 0 {
		return api.SkyModel{}, api.ErrZero
	}
	numbers := []int{den}
	for i := range terms {
		other := columns
		other[i] = sums
		numbers = append(numbers, determinant(other))
	}
	d := divisor(numbers...)
	for i := range numbers {
		numbers[i] /= d
	}
	if !areSmall(maxModel, numbers...) {
		return api.SkyModel{}, api.ErrLarge
	}
	return api.SkyModel{Terms: slices.Clone(numbers[1:]), Den: numbers[0]}, api.OK
}

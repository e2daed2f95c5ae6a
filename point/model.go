package point

import (
	"slices"

	"speculum/api"
)

const (
	maxShape     = 100           // shapes of a star, in size
	maxError     = 1000          // errors of a star, in size
	maxModel     = 1000000000000 // numbers of a model, in size
	maxPredicted = 1000          // shapes of a prediction, in size
)

// CheckStars is the number of terms, or the first error of stars.
func CheckStars(l []api.SkyStar) (int, api.Errno) {
	if len(l) == 0 {
		return 0, api.ErrShape
	}
	if len(l) > api.MaxSkyStars {
		return 0, api.ErrLarge
	}
	terms := len(l[0].Shapes)
	for _, s := range l {
		switch {
		case len(s.Shapes) != terms || !areWithin(1, api.MaxSkyTerms, terms):
			return 0, api.ErrShape
		case !areSmall(maxShape, s.Shapes...) || !areSmall(maxError, s.Error):
			return 0, api.ErrRange
		}
	}
	return terms, api.OK
}

// CheckModel is the first error of a model.
func CheckModel(m api.SkyModel) api.Errno {
	switch {
	case !areWithin(1, api.MaxSkyTerms, len(m.Terms)):
		return api.ErrShape
	case !areWithin(1, maxModel, m.Den) || !areSmall(maxModel, m.Terms...):
		return api.ErrRange
	case divisor(append(slices.Clone(m.Terms), m.Den)...) > 1:
		return api.ErrForm
	}
	return api.OK
}

// CheckFit tells whether a model is a best one of stars. No sum on its way is greater than 3 * 10^18.
func CheckFit(l []api.SkyStar, m api.SkyModel) api.Errno {
	terms, e := CheckStars(l)
	if e != api.OK {
		return e
	}
	if e := CheckModel(m); e != api.OK {
		return e
	}
	if len(m.Terms) != terms {
		return api.ErrShape
	}
	sums := make([]int, terms)
	for _, s := range l {
		residual := s.Error*m.Den - product(m.Terms, s.Shapes)
		for i, shape := range s.Shapes {
			sums[i] += shape * residual
		}
	}
	if slices.ContainsFunc(sums, func(sum int) bool { return sum != 0 }) {
		return api.ErrProof
	}
	return api.OK
}

// Predicted is the prediction of a model for shapes, rounded down and up.
func Predicted(m api.SkyModel, shapes []int) (api.Range, api.Errno) {
	if e := CheckModel(m); e != api.OK {
		return api.Range{}, e
	}
	if len(shapes) != len(m.Terms) {
		return api.Range{}, api.ErrShape
	}
	if !areSmall(maxPredicted, shapes...) {
		return api.Range{}, api.ErrRange
	}
	sum := product(m.Terms, shapes)
	return api.Range{Lo: down(sum, m.Den), Hi: up(sum, m.Den)}, api.OK
}

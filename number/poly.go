package number

import "speculum/api"

// CheckPoly tells whether a polynomial is valid.
func CheckPoly(p []int) api.Errno {
	if len(p) < 1 || len(p) > api.MaxDegree+1 {
		return api.ErrShape
	}
	for _, c := range p {
		if size(c) > api.MaxCoef {
			return api.ErrRange
		}
	}
	if p[len(p)-1] == 0 {
		return api.ErrForm
	}
	return api.OK
}

// SignAt is -1, 0 or 1 as the value at x is less than 0, 0, or greater.
func SignAt(p []int, x api.Frac) (int, api.Errno) {
	if e := CheckPoly(p); e != api.OK {
		return 0, e
	}
	if e := checkFracs(x); e != api.OK {
		return 0, e
	}
	return longPoly(p).signAt(x.Num, x.Den), api.OK
}

// Derivative is the derivative of a polynomial.
func Derivative(p []int) ([]int, api.Errno) {
	if e := CheckPoly(p); e != api.OK {
		return nil, e
	}
	if len(p) == 1 {
		return nil, api.ErrZero
	}
	derivative := make([]int, len(p)-1)
	for i := range derivative {
		derivative[i] = (i + 1) * p[i+1]
	}
	return validPoly(derivative)
}

// Times is the product of two polynomials.
func Times(p, q []int) ([]int, api.Errno) {
	if e := CheckPoly(p); e != api.OK {
		return nil, e
	}
	if e := CheckPoly(q); e != api.OK {
		return nil, e
	}
	product := make([]int, len(p)+len(q)-1)
	for i, a := range p {
		for j, b := range q {
			product[i+j] += a * b
		}
	}
	return validPoly(product)
}

// validPoly is a result of a function, if it is not too large.
func validPoly(p []int) ([]int, api.Errno) {
	if CheckPoly(p) != api.OK {
		return nil, api.ErrLarge
	}
	return p, api.OK
}

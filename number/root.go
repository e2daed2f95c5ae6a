package number

import (
	"slices"

	"speculum/api"
)

// poly is a polynomial with coefficients of any size, that of the constant first. The last one is not 0; the
// polynomial 0 has none.
type poly []long

func longPoly(p []int) poly {
	q := make(poly, len(p))
	for i, c := range p {
		q[i] = longOf(c)
	}
	return q
}

// signAt is the sign of the value at num / den, den above 0: that of the value times a power of den.
func (p poly) signAt(num, den int) int {
	over, under := longOf(num), longOf(den)
	value, power := long{}, longOf(1)
	for _, c := range slices.Backward(p) {
		value = value.times(over).plus(c.times(power))
		power = power.times(under)
	}
	return value.sign()
}

// signBehind is the sign of the values at numbers that are greater than num / den by very little: that of the first
// derivative that is not 0 there.
func (p poly) signBehind(num, den int) int {
	for ; len(p) > 0; p = p.derivative() {
		if sign := p.signAt(num, den); sign != 0 {
			return sign
		}
	}
	return 0
}

func (p poly) derivative() poly {
	var d poly
	for i, c := range p {
		if i > 0 {
			d = append(d, c.times(longOf(i)))
		}
	}
	return d
}

// rest is what a division of p by q leaves, multiplied by a number above 0 with which it is whole.
func (p poly) rest(q poly) poly {
	last := q[len(q)-1]
	r := slices.Clone(p)
	for len(r) >= len(q) {
		factor := r[len(r)-1]
		if last.sign() < 0 {
			factor = factor.opposite()
		}
		shift := len(r) - len(q)
		for i, c := range r {
			r[i] = c.times(last.size())
			if i >= shift {
				r[i] = r[i].minus(q[i-shift].times(factor))
			}
		}
		for len(r) > 0 && r[len(r)-1].sign() == 0 {
			r = r[:len(r)-1]
		}
	}
	return r
}

// sturm is a polynomial, its derivative, and then always the opposite of what the division of the last but one by the
// last one leaves, until nothing is left. As nothing is cancelled, its coefficients have up to some 2300 bits.
type sturm []poly

func sturmOf(p []int) sturm {
	before := longPoly(p)
	s := sturm{before}
	for last := before.derivative(); len(last) > 0; {
		s = append(s, last)
		rest := before.rest(last)
		for i, c := range rest {
			rest[i] = c.opposite()
		}
		before, last = last, rest
	}
	return s
}

// changesBehind is how often the signs change, from polynomial to polynomial, just behind num / den. None of them is 0
// there, so that by Sturm's theorem the changes behind one number, less those behind a greater one, are the number of
// the roots between: a root at the first number lies before it, one at the second number does not lie behind it.
func (s sturm) changesBehind(num, den int) int {
	changes, before := 0, 0
	for _, p := range s {
		sign := p.signBehind(num, den)
		if before*sign < 0 {
			changes++
		}
		before = sign
	}
	return changes
}

// rootsIn is how many roots are greater than lo and at most hi.
func (s sturm) rootsIn(lo, hi api.Frac) int {
	return s.changesBehind(lo.Num, lo.Den) - s.changesBehind(hi.Num, hi.Den)
}

// checkRoots is the error of a polynomial and of two fractions that bound its roots.
func checkRoots(p []int, lo, hi api.Frac) api.Errno {
	if e := CheckPoly(p); e != api.OK {
		return e
	}
	order, e := Cmp(lo, hi)
	if e == api.OK && order >= 0 {
		e = api.ErrOrder
	}
	return e
}

// RootsIn is how many roots are greater than lo and at most hi.
func RootsIn(p []int, lo, hi api.Frac) (int, api.Errno) {
	if e := checkRoots(p, lo, hi); e != api.OK {
		return 0, e
	}
	return sturmOf(p).rootsIn(lo, hi), api.OK
}

// RootIn is times multiplied by the only root that is greater than lo and at most hi, rounded down and up.
func RootIn(p []int, lo, hi api.Frac, times int) (api.Range, api.Errno) {
	if e := checkRoots(p, lo, hi); e != api.OK {
		return api.Range{}, e
	}
	from, e := Whole(lo, times)
	if e != api.OK {
		return api.Range{}, e
	}
	to, e := Whole(hi, times)
	if e != api.OK {
		return api.Range{}, e
	}
	s := sturmOf(p)
	switch roots := s.rootsIn(lo, hi); {
	case roots < 1:
		return api.Range{}, api.ErrNone
	case roots > 1:
		return api.Range{}, api.ErrClash
	}
	root := s.rootUp(lo, api.Range{Lo: from.Lo, Hi: to.Hi}, times)
	// A whole number beyond hi may be another root.
	if root <= to.Lo && s[0].signAt(root, times) == 0 {
		return api.Range{Lo: root, Hi: root}, api.OK
	}
	return api.Range{Lo: root - 1, Hi: root}, api.OK
}

// rootUp is times multiplied by the first root that is greater than lo, rounded up. It is greater than bounds.Lo, and
// at most bounds.Hi.
func (s sturm) rootUp(lo api.Frac, bounds api.Range, times int) int {
	atLo := s.changesBehind(lo.Num, lo.Den)
	below, least := bounds.Lo, bounds.Hi
	for least-below > 1 {
		middle := below + (least-below)/2
		if s.changesBehind(middle, times) < atLo {
			least = middle
		} else {
			below = middle
		}
	}
	return least
}

package support

import (
	"cmp"
	"iter"

	"speculum/api"
	"speculum/number"
)

// Convergents is the convergents of a fraction, each one made of the two before it.
func Convergents(f api.Frac) ([]api.Frac, api.Errno) {
	if e := number.CheckFrac(f); e != api.OK {
		return nil, e
	}
	if f.Num < 0 {
		return nil, api.ErrRange
	}
	var l []api.Frac
	before, last := api.Frac{Num: 0, Den: 1}, api.Frac{Num: 1, Den: 0}
	for over, under := f.Num, f.Den; under != 0; over, under = under, over%under {
		whole := over / under
		before, last = last, api.Frac{Num: whole*last.Num + before.Num, Den: whole*last.Den + before.Den}
		l = append(l, last)
	}
	return l, api.OK
}

// checkChoice is the first error of a ratio and of what teeth are allowed for it.
func checkChoice(ratio api.Frac, least, most int) api.Errno {
	if e := number.CheckFrac(ratio); e != api.OK {
		return e
	}
	switch {
	case ratio.Num <= 0 || !areWithin(1, api.MaxTeeth, least, most):
		return api.ErrRange
	case most < least:
		return api.ErrOrder
	}
	return api.OK
}

// off is by how much the ratio of a pair differs from another one, multiplied by both denominators: at most 5 * 10^11.
func off(g api.GearPair, ratio api.Frac) int {
	d := g.Driver*ratio.Den - g.Driven*ratio.Num
	return max(d, -d)
}

// compareOff compares by how much the ratios of two pairs differ from another one.
func compareOff(a, b api.GearPair, ratio api.Frac) int {
	return cmp.Compare(off(a, ratio)*b.Driven, off(b, ratio)*a.Driven)
}

// isBetter tells whether the pair a is to be taken rather than b.
func isBetter(a, b api.GearPair, ratio api.Frac) bool {
	return cmp.Or(
		compareOff(a, b, ratio),
		cmp.Compare(a.Driver+a.Driven, b.Driver+b.Driven),
		cmp.Compare(a.Driver, b.Driver),
	) < 0
}

// nearest yields, for each driven gear, the drivers on both sides of the ratio, or the allowed ones next to them. All
// others differ more than one of these, or as much and have more teeth.
func nearest(ratio api.Frac, least, most int) iter.Seq[api.GearPair] {
	return func(yield func(api.GearPair) bool) {
		for driven := least; driven <= most; driven++ {
			driver := driven * ratio.Num / ratio.Den
			for _, n := range [2]int{driver, driver + 1} {
				if !yield(api.GearPair{Driver: min(max(n, least), most), Driven: driven}) {
					return
				}
			}
		}
	}
}

// BestPair is the pair whose ratio differs least from this one.
func BestPair(ratio api.Frac, least, most int) (api.GearPair, api.Errno) {
	if e := checkChoice(ratio, least, most); e != api.OK {
		return api.GearPair{}, e
	}
	best := api.GearPair{Driver: least, Driven: least}
	for g := range nearest(ratio, least, most) {
		if isBetter(g, best, ratio) {
			best = g
		}
	}
	return best, api.OK
}

// CheckBest is by how much the ratio of a pair differs from this one, if no other pair differs less.
func CheckBest(ratio api.Frac, least, most int, g api.GearPair) (api.Frac, api.Errno) {
	if e := checkChoice(ratio, least, most); e != api.OK {
		return api.Frac{}, e
	}
	if !areWithin(least, most, g.Driver, g.Driven) {
		return api.Frac{}, api.ErrRange
	}
	for other := range nearest(ratio, least, most) {
		if compareOff(other, g, ratio) < 0 {
			return api.Frac{}, api.ErrProof
		}
	}
	return small(off(g, ratio), g.Driven*ratio.Den)
}

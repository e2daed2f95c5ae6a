package coat

import (
	"slices"

	"speculum/api"
)

const (
	maxWave   = 100000
	maxTables = 10 // tables of a chain
)

// whole is the reflectance of a mirror that loses nothing.
func whole() api.Range {
	return api.Range{Lo: thousand, Hi: thousand}
}

// CheckCurve is the first error of a reflectance table.
func CheckCurve(l []api.Reflect) api.Errno {
	if !areWithin(2, api.MaxReflect, len(l)) {
		return api.ErrShape
	}
	for i, x := range l {
		switch {
		case !areWithin(1, maxWave, x.Wave) || !isWithin(0, thousand, x.Share):
			return api.ErrRange
		case i > 0 && x.Wave <= l[i-1].Wave:
			return api.ErrOrder
		}
	}
	return api.OK
}

// checkWaves is the first error of a table and of wavelengths that it is to have.
func checkWaves(l []api.Reflect, waves ...int) api.Errno {
	if e := CheckCurve(l); e != api.OK {
		return e
	}
	if !areWithin(l[0].Wave, l[len(l)-1].Wave, waves...) {
		return api.ErrRange
	}
	return api.OK
}

// at is the reflectance at a wavelength that a right table has.
func at(l []api.Reflect, wave int) api.Range {
	reaching := slices.IndexFunc(l, func(x api.Reflect) bool { return x.Wave >= wave })
	right := max(1, reaching)
	a, b := l[right-1], l[right]
	ahead, behind := b.Wave-wave, wave-a.Wave
	return outward(a.Share.Lo*ahead+b.Share.Lo*behind, a.Share.Hi*ahead+b.Share.Hi*behind, ahead+behind)
}

// At is the reflectance at a wavelength.
func At(l []api.Reflect, wave int) (api.Range, api.Errno) {
	if e := checkWaves(l, wave); e != api.OK {
		return api.Range{}, e
	}
	return at(l, wave), api.OK
}

// Least is the least ends of the reflectances in a band of wavelengths. Along a straight line they are at its ends, so
// those at the ends of the band and at the points in it are enough.
func Least(l []api.Reflect, from, to int) (api.Range, api.Errno) {
	if e := checkWaves(l, from, to); e != api.OK {
		return api.Range{}, e
	}
	if to < from {
		return api.Range{}, api.ErrOrder
	}
	shares := []api.Range{at(l, from), at(l, to)}
	for _, x := range l {
		if areWithin(from, to, x.Wave) {
			shares = append(shares, x.Share)
		}
	}
	least := whole()
	for _, r := range shares {
		least = api.Range{Lo: min(least.Lo, r.Lo), Hi: min(least.Hi, r.Hi)}
	}
	return least, api.OK
}

// Chain is the reflectance of mirrors one behind the other.
func Chain(l [][]api.Reflect, wave int) (api.Range, api.Errno) {
	if len(l) > maxTables {
		return api.Range{}, api.ErrLarge
	}
	share := whole()
	for _, table := range l {
		r, e := At(table, wave)
		if e != api.OK {
			return api.Range{}, e
		}
		share = outward(share.Lo*r.Lo, share.Hi*r.Hi, thousand)
	}
	return share, api.OK
}

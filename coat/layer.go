package coat

import (
	"slices"

	"speculum/api"
	"speculum/number"
)

const maxPerCount = 1000000 // what a count is worth

// find is the number of the material with a name, or -1.
func find(l []api.Material, name string) int {
	return slices.IndexFunc(l, func(m api.Material) bool { return m.Name == name })
}

// CheckMaterials is the first error of materials.
func CheckMaterials(l []api.Material) api.Errno {
	if len(l) > api.MaxCoats {
		return api.ErrLarge
	}
	for i, m := range l {
		switch {
		case !isName(m.Name):
			return api.ErrName
		case find(l[:i], m.Name) >= 0:
			return api.ErrExists
		case !isWithin(1, maxPerCount, m.PerCount):
			return api.ErrRange
		}
	}
	return api.OK
}

// CheckRecipe is the first error of layers.
func CheckRecipe(l []api.Material, r []api.CoatLayer) api.Errno {
	if e := CheckMaterials(l); e != api.OK {
		return e
	}
	if len(r) > api.MaxCoats {
		return api.ErrLarge
	}
	for _, x := range r {
		switch {
		case find(l, x.Material) < 0:
			return api.ErrMissing
		case !areWithin(1, api.MaxCounts, x.Counts):
			return api.ErrRange
		}
	}
	return api.OK
}

// Thickness is the thickness of a layer.
func Thickness(l []api.Material, x api.CoatLayer) (api.Range, api.Errno) {
	return Total(l, []api.CoatLayer{x})
}

// Total is the sum of the thicknesses of layers. It is at most 40 * 100001 * 10^6.
func Total(l []api.Material, r []api.CoatLayer) (api.Range, api.Errno) {
	if e := CheckRecipe(l, r); e != api.OK {
		return api.Range{}, e
	}
	var sum api.Range
	for _, x := range r {
		count := l[find(l, x.Material)].PerCount
		sum.Lo += x.Counts * count.Lo
		// The shutter closes before the next count is full.
		sum.Hi += (x.Counts + 1) * count.Hi
	}
	return sum, api.OK
}

// CountsFor is the least and the greatest number of counts with which the thickness surely lies in a range.
func CountsFor(l []api.Material, material string, want api.Range) ([2]int, api.Errno) {
	if e := CheckMaterials(l); e != api.OK {
		return [2]int{}, e
	}
	found := find(l, material)
	if found < 0 {
		return [2]int{}, api.ErrMissing
	}
	if e := number.CheckRange(want); e != api.OK {
		return [2]int{}, e
	}
	if want.Lo < 0 {
		return [2]int{}, api.ErrRange
	}
	count := l[found].PerCount
	least := max(1, up(want.Lo, count.Lo))
	most := min(want.Hi/count.Hi-1, api.MaxCounts)
	if least > most {
		return [2]int{}, api.ErrNone
	}
	return [2]int{least, most}, api.OK
}

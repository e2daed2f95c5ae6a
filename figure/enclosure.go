package figure

import "speculum/api"

const maxTolerance = 200000

// CheckEnclosure tells whether an enclosure is valid.
func CheckEnclosure(l []api.Range) api.Errno {
	if !isWithin(len(l), 1, api.MaxZones) {
		return api.ErrShape
	}
	for _, r := range l {
		if !areHeights(r.Lo, r.Hi) {
			return api.ErrRange
		}
		if r.Lo > r.Hi {
			return api.ErrOrder
		}
	}
	return api.OK
}

// CheckTolerance tells whether a tolerance is valid.
func CheckTolerance(t api.FigureTolerance) api.Errno {
	if !isWithin(t.Peak, 0, maxTolerance) || !isWithin(t.Slope, 0, maxTolerance) {
		return api.ErrRange
	}
	return api.OK
}

// size is a number without its sign.
func size(n int) int {
	return max(n, -n)
}

// bound is by how much two zones may differ.
func bound(t api.FigureTolerance, i, j int) int {
	return min(t.Peak, t.Slope*size(i-j))
}

// Meets tells whether a surface meets a tolerance, or the first pair of zones that differ by more than their bound.
func Meets(heights []int, t api.FigureTolerance) ([2]int, api.Errno) {
	if e := checkHeights(heights); e != api.OK {
		return [2]int{}, e
	}
	if e := CheckTolerance(t); e != api.OK {
		return [2]int{}, e
	}
	for i, j := range pairs(len(heights)) {
		if size(heights[i]-heights[j]) > bound(t, i, j) {
			return [2]int{i, j}, api.ErrBreak
		}
	}
	return [2]int{}, api.OK
}

// leastApart is by how much the first one of two zones is at least above the second one; mostApart by how much at most.
func leastApart(l []api.Range, i, j int) int { return l[i].Lo - l[j].Hi }

func mostApart(l []api.Range, i, j int) int { return l[i].Hi - l[j].Lo }

// PeakRange is the least and the greatest one of the greatest differences of two zones.
func PeakRange(l []api.Range) (api.Range, api.Errno) {
	if e := CheckEnclosure(l); e != api.OK {
		return api.Range{}, e
	}
	peak := api.Range{}
	for i, j := range pairs(len(l)) {
		peak.Lo = max(peak.Lo, leastApart(l, i, j))
		peak.Hi = max(peak.Hi, mostApart(l, i, j))
	}
	return peak, api.OK
}

// SlopeRange is the least and the greatest one of the greatest differences of two neighbours. A difference of zones that
// are not neighbours is reached by steps: one of these is at least their mean.
func SlopeRange(l []api.Range) (api.Range, api.Errno) {
	if e := CheckEnclosure(l); e != api.OK {
		return api.Range{}, e
	}
	slope := api.Range{}
	for i, j := range pairs(len(l)) {
		steps := size(i - j)
		if apart := leastApart(l, i, j); apart > 0 {
			slope.Lo = max(slope.Lo, (apart+steps-1)/steps)
		}
		if steps == 1 {
			slope.Hi = max(slope.Hi, mostApart(l, i, j))
		}
	}
	return slope, api.OK
}

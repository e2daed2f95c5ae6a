package support

import (
	"slices"

	"speculum/api"
	"speculum/number"
)

const maxPlace = 1000000 // coordinates of points, in size

// place is two coordinates.
type place = [2]api.Frac

// pivots is the places of what hangs in a tree: those of its points, and of the levers whose pivots have been found.
type pivots struct {
	tree
	places map[string]place
}

// pivotsOf is the pivots of a tree of whose levers none has been found yet.
func pivotsOf(t tree, at [][2]int) pivots {
	p := pivots{t, map[string]place{}}
	for i, point := range p.points {
		p.places[point] = place{{Num: at[i][0], Den: 1}, {Num: at[i][1], Den: 1}}
	}
	return p
}

// between is the number that lies by a part of the whole way behind left on the way to right.
func between(left, right, part api.Frac) (api.Frac, api.Errno) {
	apart, e := number.Sub(right, left)
	if e != api.OK {
		return api.Frac{}, e
	}
	way, e := number.Mul(apart, part)
	if e != api.OK {
		return api.Frac{}, e
	}
	return number.Add(left, way)
}

// pivot is the pivot of a rocker that bears things with known places.
func (p pivots) pivot(r api.Rocker) (place, api.Errno) {
	var found place
	for i := range found {
		coordinate, e := between(p.places[r.Left][i], p.places[r.Right][i], leftPart(r))
		if e != api.OK {
			return place{}, e
		}
		found[i] = coordinate
	}
	return found, api.OK
}

// findAll finds the pivots of all levers. What a lever bears hangs behind it, so the last ones are found first.
func (p pivots) findAll() api.Errno {
	for _, thing := range slices.Backward(slices.Collect(p.hanging(p.top))) {
		r, isLever := p.levers[thing]
		if !isLever {
			continue
		}
		found, e := p.pivot(r)
		if e != api.OK {
			return e
		}
		p.places[thing] = found
	}
	return api.OK
}

// Pivots is the pivots of the rockers, where the points are at these places.
func Pivots(l []api.Rocker, at [][2]int) ([][2]api.Frac, api.Errno) {
	t, e := treeFor(l, len(at))
	if e != api.OK {
		return nil, e
	}
	for _, point := range at {
		if !areWithin(-maxPlace, maxPlace, point[:]...) {
			return nil, api.ErrRange
		}
	}
	p := pivotsOf(t, at)
	if e := p.findAll(); e != api.OK {
		return nil, e
	}
	ofRockers := make([][2]api.Frac, len(l))
	for i, r := range l {
		ofRockers[i] = p.places[r.Name]
	}
	return ofRockers, api.OK
}

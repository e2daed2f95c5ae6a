package optics

import "speculum/api"

// CheckConic tells whether a conic is valid.
func CheckConic(c api.Conic) api.Errno {
	if c.Radius == 0 || !isSized(c.Radius, api.MaxRadius) {
		return api.ErrRange
	}
	if e := checkFracs(c.K); e != api.OK {
		return e
	}
	if !isSized(c.K.Num, api.MaxConic) || c.K.Den > api.MaxConic {
		return api.ErrRange
	}
	return api.OK
}

// shape is 1 + K of a conic as s / q.
func shape(c api.Conic) (s, q int) {
	return c.K.Num + c.K.Den, c.K.Den
}

// isBeyond tells whether a distance is beyond the edge of a valid conic.
func isBeyond(c api.Conic, r int) bool {
	s, q := shape(c)
	return s*r*r > q*c.Radius*c.Radius
}

// Edge is the greatest distance from the axis that is not beyond the edge.
func Edge(c api.Conic) (int, api.Errno) {
	if e := CheckConic(c); e != api.OK {
		return 0, e
	}
	s, q := shape(c)
	if s <= 0 {
		return api.MaxAperture, api.OK
	}
	return min(rootDown(q*c.Radius*c.Radius/s), api.MaxAperture), api.OK
}

// checkPlace is the error of a conic and of a distance from its axis.
func checkPlace(c api.Conic, r int) api.Errno {
	if e := CheckConic(c); e != api.OK {
		return e
	}
	if !isWithin(r, 0, api.MaxAperture) {
		return api.ErrRange
	}
	if isBeyond(c, r) {
		return api.ErrNone
	}
	return api.OK
}

// rootOfRadicand is the range W: 100 times the root of the radicand at a distance that is not beyond the edge. All its
// numbers are at most some 2 * 10^18, which an int holds; and the lesser radicand is not below 0, as 10^4 R^2 is whole.
func rootOfRadicand(c api.Conic, r int) api.Range {
	s, q := shape(c)
	square, less := 10000*c.Radius*c.Radius, 10000*s*r*r
	return api.Range{Lo: rootDown(square - up(less, q)), Hi: rootUp(square - down(less, q))}
}

// Sag is the range of the sag at a distance from the axis, in nanometres.
func Sag(c api.Conic, r int) (api.Range, api.Errno) {
	if e := checkPlace(c, r); e != api.OK {
		return api.Range{}, e
	}
	radius, root, over := max(c.Radius, -c.Radius), rootOfRadicand(c, r), 100000*r*r
	sag := api.Range{Lo: down(over, 100*radius+root.Hi), Hi: up(over, 100*radius+root.Lo)}
	if c.Radius < 0 {
		sag = opposite(sag)
	}
	return sag, api.OK
}

// Slope is the range of the slope at a distance from the axis, in millionths.
func Slope(c api.Conic, r int) (api.Range, api.Errno) {
	if e := checkPlace(c, r); e != api.OK {
		return api.Range{}, e
	}
	root, over := rootOfRadicand(c, r), 100000000*r
	if root.Lo == 0 {
		return api.Range{}, api.ErrZero
	}
	slope := api.Range{Lo: down(over, root.Hi), Hi: up(over, root.Lo)}
	if c.Radius < 0 {
		slope = opposite(slope)
	}
	return slope, api.OK
}

// Departure is the range of the sag of a less that of b.
func Departure(a, b api.Conic, r int) (api.Range, api.Errno) {
	ofA, errorOfA := Sag(a, r)
	ofB, errorOfB := Sag(b, r)
	departure := api.Range{Lo: ofA.Lo - ofB.Hi, Hi: ofA.Hi - ofB.Lo}
	return beside(departure, CheckConic(a), CheckConic(b), errorOfA, errorOfB)
}

// SagTable is the ranges of the sag at distances from the axis.
func SagTable(c api.Conic, radii []int) ([]api.Range, api.Errno) {
	if e := CheckConic(c); e != api.OK {
		return nil, e
	}
	if len(radii) > api.MaxZones {
		return nil, api.ErrLarge
	}
	table := make([]api.Range, len(radii))
	for i, r := range radii {
		sag, e := Sag(c, r)
		if e != api.OK {
			return nil, e
		}
		table[i] = sag
	}
	return table, api.OK
}

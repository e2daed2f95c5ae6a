package optics

import "speculum/api"

const (
	maxRayPart    = 10      // parts of the conic constants that rays meet, in size
	maxRayPlace   = 100000  // beginnings of rays that meet conics, in size
	maxRayStep    = 100     // their directions, in size
	maxRayToward  = 1000    // directions of rays that are reflected, in size
	timesOfTheHit = 1000000 // what Hit multiplies by
)

// checkRayConic is the error of a conic for rays.
func checkRayConic(c api.Conic) api.Errno {
	if e := CheckConic(c); e != api.OK {
		return e
	}
	if !isSized(c.Radius, api.MaxRayUnit) || !isSized(c.K.Num, maxRayPart) || c.K.Den > maxRayPart {
		return api.ErrRange
	}
	return api.OK
}

// onePlusK is 1 + K of a valid conic. It is in lowest terms because K is.
func onePlusK(c api.Conic) api.Frac {
	s, q := shape(c)
	return api.Frac{Num: s, Den: q}
}

// OnConic reports whether a point is on a conic.
func OnConic(c api.Conic, p api.Spot) (bool, api.Errno) {
	if e := firstError(checkRayConic(c), checkFracs(p.R, p.Z)); e != api.OK {
		return false, e
	}
	var w way
	squares := w.plus(w.times(p.R, p.R), w.times(onePlusK(c), w.times(p.Z, p.Z)))
	left := w.minus(squares, w.times(whole(2*c.Radius), p.Z))
	return beside(left == whole(0), w.failed)
}

// checkRay is the error of a ray that is to meet a conic.
func checkRay(y api.Ray) api.Errno {
	begins := isSized(y.R, maxRayPlace) && isSized(y.Z, maxRayPlace)
	goes := isSized(y.ToR, maxRayStep) && isSized(y.ToZ, maxRayStep)
	if !begins || !goes {
		return api.ErrRange
	}
	if [2]int{y.ToR, y.ToZ} == [2]int{} {
		return api.ErrZero
	}
	return api.OK
}

// equation is a t^2 + 2 b t + c = 0. Those of checked rays have a up to 3 * 10^5 in size, b up to 5 * 10^8, and c up to
// 7 * 10^11, so that an int holds all that is computed of them.
type equation struct{ a, b, c int }

// meeting is the equation of the numbers at which a ray meets a conic, with a not below 0.
func meeting(c api.Conic, y api.Ray) equation {
	s, q := shape(c)
	x := equation{
		a: q*y.ToR*y.ToR + s*y.ToZ*y.ToZ,
		b: q*(y.R*y.ToR-c.Radius*y.ToZ) + s*y.Z*y.ToZ,
		c: q*y.R*y.R - 2*q*c.Radius*y.Z + s*y.Z*y.Z,
	}
	if x.a < 0 {
		return equation{a: -x.a, b: -x.b, c: -x.c}
	}
	return x
}

// onlySolution is the range of the solution if a is 0, twice.
func (x equation) onlySolution() ([2]api.Range, api.Errno) {
	if x.b == 0 {
		return [2]api.Range{}, api.ErrNone
	}
	over, by := -x.c*timesOfTheHit, 2*x.b
	if by < 0 {
		over, by = -over, -by
	}
	t := api.Range{Lo: down(over, by), Hi: up(over, by)}
	return [2]api.Range{t, t}, api.OK
}

// solutions is the ranges of both solutions if a is above 0.
func (x equation) solutions() ([2]api.Range, api.Errno) {
	under := x.b*x.b - x.a*x.c
	if under < 0 {
		return [2]api.Range{}, api.ErrNone
	}
	low, high := rootDown(under), rootUp(under)
	return [2]api.Range{
		{Lo: down((-x.b-high)*timesOfTheHit, x.a), Hi: up((-x.b-low)*timesOfTheHit, x.a)},
		{Lo: down((-x.b+low)*timesOfTheHit, x.a), Hi: up((-x.b+high)*timesOfTheHit, x.a)},
	}, api.OK
}

// Hit is the ranges of the two numbers at which a ray meets a conic, times 1000000.
func Hit(c api.Conic, y api.Ray) ([2]api.Range, api.Errno) {
	if e := firstError(checkRayConic(c), checkRay(y)); e != api.OK {
		return [2]api.Range{}, e
	}
	x := meeting(c, y)
	if x.a == 0 {
		return x.onlySolution()
	}
	return x.solutions()
}

// checkToward is the error of the direction of a ray that is to be reflected.
func checkToward(toward [2]int) api.Errno {
	if !isSized(toward[0], maxRayToward) || !isSized(toward[1], maxRayToward) {
		return api.ErrRange
	}
	if toward == [2]int{} {
		return api.ErrZero
	}
	return api.OK
}

// Reflect is the direction in which a ray goes on from a point of a conic.
func Reflect(c api.Conic, p api.Spot, toward [2]int) ([2]api.Frac, api.Errno) {
	if e := firstError(checkRayConic(c), checkFracs(p.R, p.Z), checkToward(toward)); e != api.OK {
		return [2]api.Frac{}, e
	}
	is, e := OnConic(c, p)
	if e != api.OK {
		return [2]api.Frac{}, e
	}
	if !is {
		return [2]api.Frac{}, api.ErrState
	}
	var w way
	normal := [2]api.Frac{p.R, w.minus(w.times(onePlusK(c), p.Z), whole(c.Radius))}
	back := w.mirrored([2]api.Frac{whole(toward[0]), whole(toward[1])}, normal)
	return beside(back, w.failed)
}

// mirrored is a direction less 2 (toward n) / (n n) times n. If n is (0, 0) all products are 0, and the quotient is
// ErrZero.
func (w *way) mirrored(toward, n [2]api.Frac) [2]api.Frac {
	twice := w.times(w.products(toward[0], n[0], toward[1], n[1]), whole(2))
	f := w.over(twice, w.products(n[0], n[0], n[1], n[1]))
	return [2]api.Frac{
		w.minus(toward[0], w.times(f, n[0])),
		w.minus(toward[1], w.times(f, n[1])),
	}
}

// HeightAt is the height at which the line through a point with a direction meets a plane.
func HeightAt(p api.Spot, toward [2]api.Frac, z api.Frac) (api.Frac, api.Errno) {
	if e := checkFracs(p.R, p.Z, toward[0], toward[1], z); e != api.OK {
		return api.Frac{}, e
	}
	var w way
	rise := w.over(toward[0], toward[1])
	height := w.plus(p.R, w.times(w.minus(z, p.Z), rise))
	return beside(height, w.failed)
}

// SpotOf is the least range of whole numbers that contains all heights.
func SpotOf(l []api.Frac) (api.Range, api.Errno) {
	if len(l) == 0 {
		return api.Range{}, api.ErrShape
	}
	if len(l) > api.MaxSpots {
		return api.Range{}, api.ErrLarge
	}
	if e := checkFracs(l...); e != api.OK {
		return api.Range{}, e
	}
	spot := around(l[0])
	for _, height := range l[1:] {
		next := around(height)
		spot = api.Range{Lo: min(spot.Lo, next.Lo), Hi: max(spot.Hi, next.Hi)}
	}
	return spot, api.OK
}

// around is a valid fraction, rounded down and up.
func around(f api.Frac) api.Range {
	return api.Range{Lo: down(f.Num, f.Den), Hi: up(f.Num, f.Den)}
}

package point

import "speculum/api"

const (
	maxPosition = 20 * api.Turn // in size
	maxHeight   = api.Turn / 4  // the zenith
	maxSpeed    = 1000000
)

// checkDay is the error of a day.
func checkDay(day int) api.Errno {
	if !areWithin(0, api.MaxDay, day) {
		return api.ErrRange
	}
	return api.OK
}

// CheckMount is the first error of a mounting.
func CheckMount(m api.SkyMount) api.Errno {
	switch {
	case !areSmall(maxPosition, m.Least, m.Most) || !areWithin(0, maxHeight, m.Low, m.High) || !areWithin(1, maxSpeed, m.Speed):
		return api.ErrRange
	case m.Most < m.Least || m.High < m.Low:
		return api.ErrOrder
	}
	if e := CheckTable(m.Refraction); e != api.OK {
		return e
	}
	return CheckTable(m.Drift)
}

// checkSight is the first error of a mounting, a target and a day.
func checkSight(m api.SkyMount, t api.SkyTarget, day int) api.Errno {
	if e := CheckMount(m); e != api.OK {
		return e
	}
	if e := CheckTarget(t); e != api.OK {
		return e
	}
	return checkDay(day)
}

// Apparent is the apparent azimuth and height of a target on a day.
func Apparent(m api.SkyMount, t api.SkyTarget, day int) ([2]int, api.Errno) {
	if e := checkSight(m, t, day); e != api.OK {
		return [2]int{}, e
	}
	return apparent(m, t, day), api.OK
}

// apparent is Apparent of what is valid.
func apparent(m api.SkyMount, t api.SkyTarget, day int) [2]int {
	azimuth := t.Azimuth + valueAt(m.Drift, day)
	azimuth -= down(azimuth, api.Turn) * api.Turn
	return [2]int{azimuth, t.Height + valueAt(m.Refraction, t.Height)}
}

// Turns is the turns of a target on a day.
func Turns(m api.SkyMount, t api.SkyTarget, day int) ([]int, api.Errno) {
	if e := checkSight(m, t, day); e != api.OK {
		return nil, e
	}
	s, e := stopAt(m, t, day)
	return s.turns, e
}

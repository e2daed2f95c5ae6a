package support

import "speculum/api"

const maxMass = 10000000 // weights in grams, and their arms in size

// Moments is the sums of weight times arm, about both axes. They are at most 60 * 10^14 in size.
func Moments(l []api.AxisLoad) ([2]int, api.Errno) {
	if len(l) > api.MaxLoads {
		return [2]int{}, api.ErrLarge
	}
	var sums [2]int
	for _, x := range l {
		if !areWithin(0, maxMass, x.Weight) || !areWithin(-maxMass, maxMass, x.ArmX, x.ArmY) {
			return [2]int{}, api.ErrRange
		}
		sums[0] += x.Weight * x.ArmX
		sums[1] += x.Weight * x.ArmY
	}
	return sums, api.OK
}

// Counterweight is the weight that balances loads about an axis if it is put at an arm.
func Counterweight(l []api.AxisLoad, axis, arm int) (api.Frac, api.Errno) {
	moments, e := Moments(l)
	if e != api.OK {
		return api.Frac{}, e
	}
	if !areWithin(0, 1, axis) || !areWithin(-maxMass, maxMass, arm) {
		return api.Frac{}, api.ErrRange
	}
	if arm == 0 {
		return api.Frac{}, api.ErrZero
	}
	against := -moments[axis]
	if arm < 0 {
		against, arm = -against, -arm
	}
	if against < 0 {
		return api.Frac{}, api.ErrNone
	}
	return small(against, arm)
}

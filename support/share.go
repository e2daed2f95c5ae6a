package support

import (
	"slices"

	"speculum/api"
	"speculum/number"
)

const maxLoad = 1000000 // loads and forces on points

// leftPart is ArmLeft by both arms, the way from the left end to the pivot by the whole one; rightPart is the rest.
func leftPart(r api.Rocker) api.Frac {
	return lowest(r.ArmLeft, r.ArmLeft+r.ArmRight)
}

func rightPart(r api.Rocker) api.Frac {
	return lowest(r.ArmRight, r.ArmLeft+r.ArmRight)
}

// shares is the shares of the points. A lever comes ahead of what it bears, so its own share is known by then.
func (t tree) shares() ([]api.Frac, api.Errno) {
	known := map[string]api.Frac{t.top: one()}
	var ofPoints []api.Frac
	for thing := range t.hanging(t.top) {
		r, isLever := t.levers[thing]
		if !isLever {
			ofPoints = append(ofPoints, known[thing])
			continue
		}
		left, eLeft := number.Mul(known[thing], rightPart(r))
		right, eRight := number.Mul(known[thing], leftPart(r))
		if eLeft != api.OK || eRight != api.OK {
			return nil, api.ErrLarge
		}
		known[r.Left], known[r.Right] = left, right
	}
	return ofPoints, api.OK
}

// Shares is the shares of the points.
func Shares(l []api.Rocker) ([]api.Frac, api.Errno) {
	t, e := treeOf(l)
	if e != api.OK {
		return nil, e
	}
	return t.shares()
}

// CheckShares tells whether these are the shares of the points.
func CheckShares(l []api.Rocker, shares []api.Frac) api.Errno {
	t, e := treeFor(l, len(shares))
	if e != api.OK {
		return e
	}
	for _, f := range shares {
		if e := number.CheckFrac(f); e != api.OK {
			return e
		}
	}
	right, e := t.shares()
	if e != api.OK {
		return e
	}
	if !slices.Equal(shares, right) {
		return api.ErrProof
	}
	return api.OK
}

// sums is the sums of the loads of all points below both arms of a rocker, where a list has a load for each point.
func (t tree) sums(r api.Rocker, loads []int) (left, right int) {
	return t.sum(r.Left, loads), t.sum(r.Right, loads)
}

// sum is the sum of the loads of the points below a thing, which may be a point itself.
func (t tree) sum(thing string, loads []int) int {
	sum := 0
	for x := range t.hanging(thing) {
		if i := slices.Index(t.points, x); i >= 0 {
			sum += loads[i]
		}
	}
	return sum
}

// ArmsFor is the rockers with the arms for loads of the points: the arm of one side is in proportion to the loads
// below the other one.
func ArmsFor(l []api.Rocker, loads []int) ([]api.Rocker, api.Errno) {
	t, e := treeFor(l, len(loads))
	if e != api.OK {
		return nil, e
	}
	if !areWithin(1, maxLoad, loads...) {
		return nil, api.ErrRange
	}
	fitted := slices.Clone(l)
	for i, r := range l {
		left, right := t.sums(r, loads)
		arms := lowest(right, left)
		if max(arms.Num, arms.Den) > api.MaxArm {
			return nil, api.ErrLarge
		}
		fitted[i].ArmLeft, fitted[i].ArmRight = arms.Num, arms.Den
	}
	return fitted, api.OK
}

// Unbalanced is the numbers of the rockers that forces on the points would turn.
func Unbalanced(l []api.Rocker, forces []int) ([]int, api.Errno) {
	t, e := treeFor(l, len(forces))
	if e != api.OK {
		return nil, e
	}
	if !areWithin(0, maxLoad, forces...) {
		return nil, api.ErrRange
	}
	var turned []int
	for i, r := range l {
		if left, right := t.sums(r, forces); r.ArmLeft*left != r.ArmRight*right {
			turned = append(turned, i)
		}
	}
	return turned, api.OK
}

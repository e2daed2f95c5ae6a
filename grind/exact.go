package grind

import (
	"iter"
	"slices"

	"speculum/api"
)

// vector has a number for each stroke of a system.
type vector [api.MaxFewStrokes]int

func (v vector) opposite() vector {
	return vector{-v[0], -v[1], -v[2]}
}

// times is the sum of the products.
func (v vector) times(w vector) int {
	return v[0]*w[0] + v[1]*w[1] + v[2]*w[2]
}

// across is the vector whose product with another one is the determinant of all three.
func (v vector) across(w vector) vector {
	return vector{v[1]*w[2] - v[2]*w[1], v[2]*w[0] - v[0]*w[2], v[0]*w[1] - v[1]*w[0]}
}

// balance is numbers, none of them negative, with which four vectors add up to 0. It reports false if such numbers have
// both signs. They are determinants, so those of plans and of weights are whole, and within the limits of these.
func balance(v [4]vector) ([4]int, bool) {
	first, last := v[0].across(v[1]), v[2].across(v[3])
	numbers := [4]int{v[1].times(last), -v[0].times(last), v[3].times(first), -v[2].times(first)}
	if slices.Min(numbers[:]) < 0 {
		for i := range numbers {
			numbers[i] = -numbers[i]
		}
	}
	return numbers, slices.Min(numbers[:]) >= 0
}

// inequality says that the minutes of the strokes, times of, are at least least.
type inequality struct {
	of    vector
	least int
}

// system is the inequalities that say which plans are right: those of the least wear of the zones, then those of the
// greatest wear, then those of the minutes. It always has three strokes: those that are not there wear nothing, so that
// no plan with the least time uses them.
type system struct {
	zones int
	all   []inequality
}

func newSystem(l []api.Stroke, d api.GrindDemand) system {
	s := system{zones: zonesOf(l)}
	for zone, low := range d.Low {
		s.all = append(s.all, inequality{wearIn(l, zone), low})
	}
	for zone, high := range d.High {
		s.all = append(s.all, inequality{wearIn(l, zone).opposite(), -high})
	}
	for i := range api.MaxFewStrokes {
		var alone vector
		alone[i] = 1
		s.all = append(s.all, inequality{alone, 0})
	}
	return s
}

// wearIn is the wear of each stroke in a zone.
func wearIn(l []api.Stroke, zone int) vector {
	var wear vector
	for i, s := range l {
		wear[i] = s.Wear[zone]
	}
	return wear
}

// choices yields all choices of so many inequalities, by their numbers. A choice is overwritten by the next one.
func (s system) choices(size int) iter.Seq[[]int] {
	return func(yield func([]int) bool) {
		choice := make([]int, size)
		fill := func(at, number int) {
			for ; at < size; at++ {
				choice[at] = number
				number++
			}
		}
		fill(0, 0)
		for yield(choice) {
			at := size - 1
			for at >= 0 && choice[at] == len(s.all)-size+at {
				at--
			}
			if at < 0 {
				return
			}
			fill(at, choice[at]+1)
		}
	}
}

// corner has the columns of three inequalities as equations: those of the minutes, and the opposite of what they are to
// add up to. Numbers that balance these are minutes, and their denominator.
func (s system) corner(choice []int) [4]vector {
	var columns [4]vector
	for row, n := range choice {
		for i, x := range s.all[n].of {
			columns[i][row] = x
		}
		columns[3][row] = -s.all[n].least
	}
	return columns
}

// pulls has what the inequalities of a choice pull on the strokes; if these are three, then the opposite of the pull 1
// on each stroke. Numbers that balance these are weights, and for three inequalities their denominator.
func (s system) pulls(choice []int) [4]vector {
	var pulls [4]vector
	pulls[3] = vector{-1, -1, -1}
	for i, n := range choice {
		pulls[i] = s.all[n].of
	}
	return pulls
}

// allows tells whether minutes with their denominator keep all inequalities.
func (s system) allows(minutes vector, den int) bool {
	return !slices.ContainsFunc(s.all, func(q inequality) bool { return q.of.times(minutes) < q.least*den })
}

// weights has numbers as the weights of a choice of inequalities. Those of the minutes have none: they only make the
// pull smaller.
func (s system) weights(choice []int, numbers [4]int, den int) api.GrindProof {
	of := make([]int, len(s.all))
	for i, n := range choice {
		of[n] = numbers[i]
	}
	return api.GrindProof{Low: slices.Clone(of[:s.zones]), High: slices.Clone(of[s.zones : 2*s.zones]), Den: den}
}

// least is a right plan with the least time, and weights that prove it, if there is a right plan. Then there is, as of
// every linear program with a least value, a choice of three inequalities that gives both.
func (s system) least(strokes int) (api.GrindAnswer, bool) {
	for choice := range s.choices(api.MaxFewStrokes) {
		minutes, isPlan := balance(s.corner(choice))
		numbers, isProof := balance(s.pulls(choice))
		den := minutes[3]
		if isPlan && isProof && den > 0 && s.allows(vector{minutes[0], minutes[1], minutes[2]}, den) {
			plan := api.GrindPlan{Minutes: slices.Clone(minutes[:strokes]), Den: den}
			return api.GrindAnswer{Plan: plan, Weights: s.weights(choice, numbers, numbers[3])}, true
		}
	}
	return api.GrindAnswer{}, false
}

// refusal is weights that refuse. If there is no right plan, there are four inequalities that no minutes keep: one more
// than there are strokes. In a sum of these no minutes are left, and it says that 0 is at least a bound above 0.
func (s system) refusal() api.GrindProof {
	for choice := range s.choices(api.MaxFewStrokes + 1) {
		numbers, ok := balance(s.pulls(choice))
		bound := 0
		for i, n := range choice {
			bound += numbers[i] * s.all[n].least
		}
		if ok && bound > 0 {
			return s.weights(choice, numbers, 1)
		}
	}
	return api.GrindProof{}
}

// Plan is a right plan with the least time and weights that prove this, or weights that refuse.
func Plan(l []api.Stroke, d api.GrindDemand) (api.GrindAnswer, api.Errno) {
	if e := CheckDemand(l, d); e != api.OK {
		return api.GrindAnswer{}, e
	}
	if len(l) > api.MaxFewStrokes || zonesOf(l) > api.MaxFewZones {
		return api.GrindAnswer{}, api.ErrLarge
	}
	s := newSystem(l, d)
	if x, ok := s.least(len(l)); ok {
		return x, api.OK
	}
	return api.GrindAnswer{Weights: s.refusal()}, api.ErrNone
}

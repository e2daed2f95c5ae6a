package blank

import "speculum/api"

const maxCircle = 200 // bounds of a circle

// schedule is times that bounds have raised: that of the beginning first, then those of the levels. because has, for
// each of them, the number of the bound that raised it.
type schedule struct {
	bounds         []api.CoolBound
	times, because []int
}

// newSchedule has all times 0, as the first bounds of a system ask for.
func newSchedule(bounds []api.CoolBound, levels int) schedule {
	s := schedule{bounds: bounds, times: make([]int, levels+1), because: make([]int, levels+1)}
	for level := range levels {
		s.because[level+1] = level
	}
	return s
}

// raise raises each time that is too early for a bound, once for each bound, and returns a level that was raised.
func (s schedule) raise() (int, bool) {
	raised, ok := 0, false
	for i, b := range s.bounds {
		if least := s.times[b.To+1] - b.Most; s.times[b.From+1] < least {
			s.times[b.From+1], s.because[b.From+1] = least, i
			raised, ok = b.From, true
		}
	}
	return raised, ok
}

// before is the level whose time raised that of a level.
func (s schedule) before(level int) int {
	return s.bounds[s.because[level+1]].To
}

// circle is the bounds that go on raising a level, from one of them round to itself. Where there are as many rounds of
// raising as times, there is such a circle behind each level that the last round raised.
func (s schedule) circle(level int) []int {
	for range s.times {
		level = s.before(level)
	}
	circle := []int{s.because[level+1]}
	for at := s.before(level); at != level; at = s.before(at) {
		circle = append(circle, s.because[at+1])
	}
	return circle
}

// Earliest is the earliest times that keep all bounds, or a circle of bounds that no times keep.
func Earliest(a api.Annealing) ([]int, []int, api.Errno) {
	bounds, e := CoolSystem(a)
	if e != api.OK {
		return nil, nil, e
	}
	s := newSchedule(bounds, len(a.Steps)+1)
	level, isRaised := 0, true
	for range s.times {
		if level, isRaised = s.raise(); !isRaised {
			return s.times[1:], nil, api.OK
		}
	}
	return nil, s.circle(level), api.ErrCycle
}

// CheckCircle is the sum of a circle of bounds, if it proves that no times keep them.
func CheckCircle(a api.Annealing, circle []int) (int, api.Errno) {
	bounds, e := CoolSystem(a)
	if e != api.OK {
		return 0, e
	}
	if !isWithin(len(circle), 1, maxCircle) {
		return 0, api.ErrShape
	}
	for _, n := range circle {
		if !isWithin(n, 0, len(bounds)-1) {
			return 0, api.ErrMissing
		}
	}
	sum, at := 0, bounds[circle[len(circle)-1]].To
	for _, n := range circle {
		if bounds[n].From != at {
			return 0, api.ErrOpen
		}
		sum, at = sum+bounds[n].Most, bounds[n].To
	}
	if sum >= 0 {
		return 0, api.ErrProof
	}
	return sum, api.OK
}

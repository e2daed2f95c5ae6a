package blank

import "speculum/api"

const (
	maxFactor = 1000
	maxDrop   = 1000
	maxLimit  = 1000000000
	maxMost   = 100000  // minutes of a step
	maxWindow = 1000000 // minutes of a window
	beginning = -1      // the level from which bounds count
)

// CheckAnnealing tells whether the demands on a schedule are valid.
func CheckAnnealing(a api.Annealing) api.Errno {
	return firstOf(
		within(a.Thick, 1, maxThick),
		within(a.Factor, 0, maxFactor),
		need(isWithin(len(a.Steps), 1, api.MaxCoolSteps), api.ErrShape),
		each(a.Steps, func(s api.CoolStep) api.Errno {
			return firstOf(
				within(s.Drop, 1, maxDrop),
				within(s.Limit, 1, maxLimit),
				within(s.Most, 1, maxMost),
			)
		}),
		need(len(a.Windows) <= api.MaxCoolWindows, api.ErrLarge),
		each(a.Windows, func(w api.CoolWindow) api.Errno {
			return firstOf(
				need(isWithin(w.Level, 0, len(a.Steps)), api.ErrMissing),
				within(w.From, 0, maxWindow),
				within(w.To, 0, maxWindow),
				need(w.To >= w.From, api.ErrOrder),
			)
		}),
	)
}

// checkStep is the error of an annealing, or of the number of a step of it.
func checkStep(a api.Annealing, step int) api.Errno {
	return firstOf(
		func() api.Errno { return CheckAnnealing(a) },
		need(isWithin(step, 0, len(a.Steps)-1), api.ErrMissing),
	)
}

// minuteStress is the stress of a step in one minute: at most 25 * 10^10.
func minuteStress(a api.Annealing, step int) int {
	return a.Factor * a.Thick * a.Thick * a.Steps[step].Drop
}

// leastMinutes is the least minutes of a step of a valid annealing.
func leastMinutes(a api.Annealing, step int) int {
	return max(enclose(minuteStress(a, step), a.Steps[step].Limit).Hi, 1)
}

// StressOf is the range of the stress of a step in some minutes.
func StressOf(a api.Annealing, step, minutes int) (api.Range, api.Errno) {
	if e := checkStep(a, step); e != api.OK {
		return api.Range{}, e
	}
	if !isWithin(minutes, 1, api.MaxMinute) {
		return api.Range{}, api.ErrRange
	}
	return enclose(minuteStress(a, step), minutes), api.OK
}

// LeastMinutes is the least minutes in which the stress of a step is kept.
func LeastMinutes(a api.Annealing, step int) (int, api.Errno) {
	if e := checkStep(a, step); e != api.OK {
		return 0, e
	}
	return leastMinutes(a, step), api.OK
}

// CoolSystem is the bounds of an annealing. The first ones are those that no level is reached before the beginning, in
// the order of the levels.
func CoolSystem(a api.Annealing) ([]api.CoolBound, api.Errno) {
	if e := CheckAnnealing(a); e != api.OK {
		return nil, e
	}
	var bounds []api.CoolBound
	for level := range len(a.Steps) + 1 {
		bounds = append(bounds, api.CoolBound{From: level, To: beginning, Most: 0})
	}
	for i, s := range a.Steps {
		bounds = append(bounds,
			api.CoolBound{From: i, To: i + 1, Most: s.Most},
			api.CoolBound{From: i + 1, To: i, Most: -leastMinutes(a, i)})
	}
	for _, w := range a.Windows {
		bounds = append(bounds,
			api.CoolBound{From: beginning, To: w.Level, Most: w.To},
			api.CoolBound{From: w.Level, To: beginning, Most: -w.From})
	}
	return bounds, api.OK
}

// CheckTimes tells whether times keep all bounds, with the number of the level, step or window that does not.
func CheckTimes(a api.Annealing, times []int) (int, api.Errno) {
	if e := CheckAnnealing(a); e != api.OK {
		return 0, e
	}
	if len(times) != len(a.Steps)+1 {
		return 0, api.ErrShape
	}
	for level, time := range times {
		if !isWithin(time, 0, api.MaxMinute) {
			return level, api.ErrRange
		}
	}
	for i, s := range a.Steps {
		minutes := times[i+1] - times[i]
		if minutes < leastMinutes(a, i) {
			return i, api.ErrEarly
		}
		if minutes > s.Most {
			return i, api.ErrLate
		}
	}
	for i, w := range a.Windows {
		if !isWithin(times[w.Level], w.From, w.To) {
			return i, api.ErrBreak
		}
	}
	return 0, api.OK
}

// Worst is the first step with the greatest stress, and the range of this stress.
func Worst(a api.Annealing, times []int) (int, api.Range, api.Errno) {
	if _, e := CheckTimes(a, times); e != api.OK {
		return 0, api.Range{}, e
	}
	minutesOf := func(step int) int { return times[step+1] - times[step] }
	worst := 0
	for step := range a.Steps {
		if minuteStress(a, step)*minutesOf(worst) > minuteStress(a, worst)*minutesOf(step) {
			worst = step
		}
	}
	return worst, enclose(minuteStress(a, worst), minutesOf(worst)), api.OK
}

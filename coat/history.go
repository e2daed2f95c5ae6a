package coat

import (
	"slices"

	"speculum/api"
)

// checkDay is the error of a day.
func checkDay(day int) api.Errno {
	if !areWithin(0, api.MaxDay, day) {
		return api.ErrRange
	}
	return api.OK
}

// checkAlone is the first error that an event has whatever is ahead of it.
func checkAlone(x api.CoatEvent) api.Errno {
	if !isName(x.Mirror) {
		return api.ErrName
	}
	if e := checkDay(x.Day); e != api.OK {
		return e
	}
	if !areWithin(api.CoatPut, api.CoatStrip, x.Kind) {
		return api.ErrKind
	}
	return api.OK
}

// checkBehind is the first error of an event behind others, which have made a film.
func checkBehind(before []api.CoatEvent, f film, x api.CoatEvent) api.Errno {
	if e := checkAlone(x); e != api.OK {
		return e
	}
	if len(before) > 0 {
		switch first, last := before[0], before[len(before)-1]; {
		case x.Mirror != first.Mirror:
			return api.ErrClash
		case x.Day < last.Day:
			return api.ErrOrder
		}
	}
	return f.refusal(x.Kind)
}

// CheckHistory is the first error of a history, with the number of the event that has it.
func CheckHistory(a api.Aging, l []api.CoatEvent) (int, api.Errno) {
	if e := CheckAging(a); e != api.OK {
		return 0, e
	}
	if len(l) > api.MaxCoats {
		return 0, api.ErrLarge
	}
	f := film{Aging: a}
	for i, x := range l {
		if e := checkBehind(l[:i], f, x); e != api.OK {
			return i, e
		}
		f = f.behind(x)
	}
	return 0, api.OK
}

// filmOn is the film behind all events of a right history up to a day.
func filmOn(a api.Aging, l []api.CoatEvent, day int) film {
	f := film{Aging: a}
	for _, x := range l {
		if x.Day <= day {
			f = f.behind(x)
		}
	}
	return f
}

// rightFilmOn is the film on a day, or the first error of the history and the day.
func rightFilmOn(a api.Aging, l []api.CoatEvent, day int) (film, api.Errno) {
	if _, e := CheckHistory(a, l); e != api.OK {
		return film{}, e
	}
	if e := checkDay(day); e != api.OK {
		return film{}, e
	}
	return filmOn(a, l, day), api.OK
}

// Next is the events with one more behind them.
func Next(a api.Aging, l []api.CoatEvent, x api.CoatEvent) ([]api.CoatEvent, api.Errno) {
	if _, e := CheckHistory(a, l); e != api.OK {
		return nil, e
	}
	more := append(slices.Clone(l), x)
	if _, e := CheckHistory(a, more); e != api.OK {
		return nil, e
	}
	return more, api.OK
}

// Allowed is the kinds of events that are right behind a history on a day.
func Allowed(a api.Aging, l []api.CoatEvent, day int) ([]int, api.Errno) {
	if _, e := rightFilmOn(a, l, day); e != api.OK {
		return nil, e
	}
	x := api.CoatEvent{Mirror: "any", Day: day}
	if len(l) > 0 {
		x.Mirror = l[0].Mirror
	}
	var kinds []int
	for x.Kind = api.CoatPut; x.Kind <= api.CoatStrip; x.Kind++ {
		if _, e := Next(a, l, x); e == api.OK {
			kinds = append(kinds, x.Kind)
		}
	}
	return kinds, api.OK
}

// StateOn is how many washes the coating bears still on a day, or -1 if the mirror is bare.
func StateOn(a api.Aging, l []api.CoatEvent, day int) (int, api.Errno) {
	f, e := rightFilmOn(a, l, day)
	if e != api.OK {
		return 0, e
	}
	return f.left(), api.OK
}

// Bright is the brightness of a coated mirror on a day.
func Bright(a api.Aging, l []api.CoatEvent, day int) (api.Range, api.Errno) {
	f, e := rightFilmOn(a, l, day)
	if e != api.OK {
		return api.Range{}, e
	}
	if !f.isOn {
		return api.Range{}, api.ErrState
	}
	return f.brightOn(day), api.OK
}

// DueDays is the first days, from that of the last event on, on which the brightness may be and surely is less than
// least.
func DueDays(a api.Aging, l []api.CoatEvent, least int) ([2]int, api.Errno) {
	f, e := rightFilmOn(a, l, api.MaxDay)
	if e != api.OK {
		return [2]int{}, e
	}
	if !f.isOn {
		return [2]int{}, api.ErrState
	}
	if !areWithin(0, thousand, least) {
		return [2]int{}, api.ErrRange
	}
	return [2]int{
		f.firstDay(func(r api.Range) bool { return r.Lo < least }),
		f.firstDay(func(r api.Range) bool { return r.Hi < least }),
	}, api.OK
}

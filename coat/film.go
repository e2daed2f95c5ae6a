package coat

import (
	"sort"

	"speculum/api"
)

const maxWashes = 100

// film is what is on a mirror, with the aging that it follows.
type film struct {
	api.Aging
	isOn   bool      // otherwise the mirror is bare, and nothing else is known
	washed int       // how often since it was put on
	since  int       // the day of the last put or wash
	bright api.Range // on that day
}

// CheckAging is the first error of an aging.
func CheckAging(a api.Aging) api.Errno {
	for _, r := range [3]api.Range{a.Fresh, a.Loss, a.Back} {
		if !isWithin(0, thousand, r) {
			return api.ErrRange
		}
	}
	if !areWithin(0, maxWashes, a.Washes) {
		return api.ErrRange
	}
	return api.OK
}

// left is how many washes a film bears still, or -1 if there is none.
func (f film) left() int {
	if !f.isOn {
		return -1
	}
	return f.Washes - f.washed
}

// refusal is why an event of a kind is not possible.
func (f film) refusal(kind int) api.Errno {
	isPut := kind == api.CoatPut
	switch {
	case isPut == f.isOn:
		return api.ErrState
	case kind == api.CoatWash && f.left() == 0:
		return api.ErrFull
	}
	return api.OK
}

// brightOn is the brightness on a day that is not ahead of the last put or wash.
func (f film) brightOn(day int) api.Range {
	days := day - f.since
	loss := outward(f.Loss.Lo*days, f.Loss.Hi*days, thousand)
	return api.Range{Lo: max(0, f.bright.Lo-loss.Hi), Hi: max(0, f.bright.Hi-loss.Lo)}
}

// put, wash and strip are the film behind an event that is possible.

func (f film) put(day int) film {
	return film{Aging: f.Aging, isOn: true, since: day, bright: f.Fresh}
}

func (f film) wash(day int) film {
	r := f.brightOn(day)
	f.bright = api.Range{Lo: min(r.Lo+f.Back.Lo, f.Fresh.Lo), Hi: min(r.Hi+f.Back.Hi, f.Fresh.Hi)}
	f.since = day
	f.washed++
	return f
}

func (f film) strip() film {
	return film{Aging: f.Aging}
}

// behind is the film behind an event that is possible.
func (f film) behind(x api.CoatEvent) film {
	switch x.Kind {
	case api.CoatPut:
		return f.put(x.Day)
	case api.CoatWash:
		return f.wash(x.Day)
	}
	return f.strip()
}

// firstDay is the first day on which the brightness is so, from the last put or wash on, if it stays so; it is
// MaxDay + 1 if there is none.
func (f film) firstDay(isSo func(r api.Range) bool) int {
	return f.since + sort.Search(api.MaxDay+1-f.since, func(days int) bool { return isSo(f.brightOn(f.since + days)) })
}

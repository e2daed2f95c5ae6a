package point

import "speculum/api"

// Times is the minutes at which the targets of a choice begin, or the number of the first one that is late.
func Times(m api.SkyMount, l []api.SkyTarget, at [3]int, turns []int) ([]int, int, api.Errno) {
	t, _, e := tourOf(m, l, [2]int{at[0], at[1]})
	if e != api.OK {
		return nil, 0, e
	}
	if !areWithin(0, api.MaxMinute, at[2]) {
		return nil, 0, api.ErrRange
	}
	positions, e := t.chosen(turns)
	if e != api.OK {
		return nil, 0, e
	}
	begins := make([]int, len(positions))
	from, minute := t.begin, at[2]
	for n, s := range t.stops {
		way, _ := wayBetween(from, positions[n])
		begins[n] = max(minute+up(way, m.Speed), s.From)
		from, minute = positions[n], begins[n]+s.Dwell
		if minute > s.To {
			return nil, n, api.ErrLate
		}
	}
	return begins, 0, api.OK
}

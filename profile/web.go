package profile

import (
	"math"
	"slices"

	"speculum/api"
)

const noWay = math.MaxInt // the sum of a way that is not there

// leg is a signed reading, with where it leads and how long it is: the height of to is at most so much above that of
// from.
type leg struct{ signed, from, to, length int }

// legOf is a signed reading of readings that have it.
func legOf(l []api.HeightReading, signed int) leg {
	if signed < 0 {
		r := l[-signed-1]
		return leg{signed, r.To, r.From, -r.Diff.Lo}
	}
	r := l[signed-1]
	return leg{signed, r.From, r.To, r.Diff.Hi}
}

// web is the zones with all signed readings between them.
type web struct {
	zones int
	legs  []leg
}

func newWeb(zones int, l []api.HeightReading) web {
	w := web{zones: zones}
	for i := range l {
		w.legs = append(w.legs, legOf(l, i+1), legOf(l, -i-1))
	}
	return w
}

// sums is the least sums of ways to each zone that rounds have found so far, and the last leg of each of these ways.
type sums struct {
	least []int
	last  []leg
}

// lower goes through all legs, and takes each one with which a sum becomes less. It returns a zone whose sum did.
func (w web) lower(s sums) (int, bool) {
	lowered, ok := 0, false
	for _, g := range w.legs {
		if s.least[g.from] == noWay {
			continue
		}
		if sum := s.least[g.from] + g.length; sum < s.least[g.to] {
			s.least[g.to], s.last[g.to] = sum, g
			lowered, ok = g.to, true
		}
	}
	return lowered, ok
}

// from is the sums D of a zone to all zones; readings must not contradict each other. Then there are ways with these
// sums that come through no zone twice, so there is nothing to lower after as many rounds as zones.
func (w web) from(zone int) []int {
	s := sums{slices.Repeat([]int{noWay}, w.zones), make([]leg, w.zones)}
	s.least[zone] = 0
	for range w.zones {
		if _, ok := w.lower(s); !ok {
			break
		}
	}
	return s.least
}

// circle is the signed readings of a circle with a sum below 0, if there is one. Ways may begin anywhere, with 0: where
// as many rounds as zones still lower a sum, the last legs lead back from there to a circle, which comes through no zone
// twice.
func (w web) circle() []int {
	s := sums{make([]int, w.zones), make([]leg, w.zones)}
	zone, isLowered := 0, false
	for range w.zones {
		if zone, isLowered = w.lower(s); !isLowered {
			return nil
		}
	}
	for range w.zones {
		zone = s.last[zone].from
	}
	circle := []int{s.last[zone].signed}
	for at := s.last[zone].from; at != zone; at = s.last[at].from {
		circle = append(circle, s.last[at].signed)
	}
	slices.Reverse(circle)
	return circle
}

// agreeing is the web of readings, if these are valid and do not contradict each other.
func agreeing(zones int, l []api.HeightReading) (web, api.Errno) {
	if e := CheckReadings(zones, l); e != api.OK {
		return web{}, e
	}
	w := newWeb(zones, l)
	if len(w.circle()) > 0 {
		return web{}, api.ErrClash
	}
	return w, api.OK
}

// joined is the web of readings that have the error OK.
func joined(zones int, l []api.HeightReading) (web, api.Errno) {
	w, e := agreeing(zones, l)
	if e != api.OK {
		return web{}, e
	}
	if slices.Contains(w.from(0), noWay) {
		return web{}, api.ErrOpen
	}
	return w, api.OK
}

// between is the narrowest range of the height of b less that of a, if there is a way between them.
func (w web) between(a, b int) (api.Range, bool) {
	there, back := w.from(a)[b], w.from(b)[a]
	if there == noWay {
		return api.Range{}, false
	}
	return api.Range{Lo: -back, Hi: there}, true
}

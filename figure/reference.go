package figure

import (
	"slices"

	"speculum/api"
)

const (
	maxQ       = 1000
	maxWeight  = 1000
	maxLineDen = 1000       // denominators of a line
	maxLineNum = 1000000000 // numerators of a line, in size
)

// CheckMap tells whether a map is valid.
func CheckMap(m api.RemovalMap) api.Errno {
	zones := len(m.Heights)
	if !isWithin(zones, 1, api.MaxZones) || len(m.Q) != zones || len(m.Weights) != zones {
		return api.ErrShape
	}
	for zone, height := range m.Heights {
		if !areHeights(height) || !isWithin(m.Q[zone], 0, maxQ) || !isWithin(m.Weights[zone], 0, maxWeight) {
			return api.ErrRange
		}
	}
	if slices.Max(m.Weights) == 0 {
		return api.ErrZero
	}
	return api.OK
}

// Mean is the mean of the numbers q of a map.
func Mean(m api.RemovalMap) (api.Frac, api.Errno) {
	if e := CheckMap(m); e != api.OK {
		return api.Frac{}, e
	}
	return mean(m), api.OK
}

// mean is the mean of a valid map.
func mean(m api.RemovalMap) api.Frac {
	sum, weights := 0, 0
	for zone, weight := range m.Weights {
		sum += weight * m.Q[zone]
		weights += weight
	}
	return lowest(sum, weights)
}

// Reference is a line of least removal, with two zones that it touches.
func Reference(m api.RemovalMap) (api.LowerLine, api.Errno) {
	if e := CheckMap(m); e != api.OK {
		return api.LowerLine{}, e
	}
	return reference(m), api.OK
}

// reference is a line of least removal of a valid map. The lowest zones make a chain of lines from the least q to the
// greatest one, none of which digs; one of them leads over the mean. Only where all zones have the same q there is none.
func reference(m api.RemovalMap) api.LowerLine {
	for i, j := range pairs(len(m.Heights)) {
		if m.Q[i] == m.Q[j] || !areAround(m, i, j) {
			continue
		}
		l := through(m, i, j)
		if _, digs := firstDug(m, l); !digs {
			return l
		}
	}
	deepest := slices.Index(m.Heights, slices.Min(m.Heights))
	return api.LowerLine{Start: lowest(m.Heights[deepest], 1), Slope: lowest(0, 1), Touch: [2]int{deepest, deepest}}
}

// areAround tells whether q of a zone is at most the mean, and that of another one at least.
func areAround(m api.RemovalMap, before, behind int) bool {
	of := mean(m)
	return m.Q[before]*of.Den <= of.Num && of.Num <= m.Q[behind]*of.Den
}

// through is the line through two zones; q of the second one is greater.
func through(m api.RemovalMap, i, j int) api.LowerLine {
	rise, run := m.Heights[j]-m.Heights[i], m.Q[j]-m.Q[i]
	return api.LowerLine{Start: lowest(m.Heights[i]*run-rise*m.Q[i], run), Slope: lowest(rise, run), Touch: [2]int{i, j}}
}

// removalTimesDen is the removal of a zone by a valid line, times denOf the line: less than 2 * 10^15 in size, and less
// than 10^12 by a line through two zones.
func removalTimesDen(m api.RemovalMap, l api.LowerLine, zone int) int {
	return m.Heights[zone]*denOf(l) - l.Start.Num*l.Slope.Den - l.Slope.Num*m.Q[zone]*l.Start.Den
}

// denOf is a common denominator of a line.
func denOf(l api.LowerLine) int {
	return l.Start.Den * l.Slope.Den
}

// firstDug is the first zone whose removal by a valid line is below 0, if there is one.
func firstDug(m api.RemovalMap, l api.LowerLine) (int, bool) {
	for zone := range m.Heights {
		if removalTimesDen(m, l, zone) < 0 {
			return zone, true
		}
	}
	return 0, false
}

// checkLine is the error of a map, or of a line.
func checkLine(m api.RemovalMap, l api.LowerLine) api.Errno {
	if e := CheckMap(m); e != api.OK {
		return e
	}
	if !isLowest(l.Start) || !isLowest(l.Slope) {
		return api.ErrForm
	}
	if !isOfLine(l.Start) || !isOfLine(l.Slope) {
		return api.ErrRange
	}
	return api.OK
}

func isLowest(f api.Frac) bool {
	return f.Den > 0 && divisor(f.Num, f.Den) == 1
}

// isOfLine tells whether a fraction in lowest terms is not too great for a line.
func isOfLine(f api.Frac) bool {
	return isWithin(f.Den, 1, maxLineDen) && isWithin(f.Num, -maxLineNum, maxLineNum)
}

// CheckReference tells whether a line is one of least removal that touches its zones; if it digs, it tells the number of
// the first zone where it does.
func CheckReference(m api.RemovalMap, l api.LowerLine) (int, api.Errno) {
	if e := checkLine(m, l); e != api.OK {
		return 0, e
	}
	if zone, digs := firstDug(m, l); digs {
		return zone, api.ErrBreak
	}
	for _, zone := range l.Touch {
		if !isWithin(zone, 0, len(m.Heights)-1) {
			return 0, api.ErrMissing
		}
	}
	for _, zone := range l.Touch {
		if removalTimesDen(m, l, zone) != 0 {
			return 0, api.ErrProof
		}
	}
	if !areAround(m, l.Touch[0], l.Touch[1]) {
		return 0, api.ErrProof
	}
	return 0, api.OK
}

// Removal is the removal of each zone by a line.
func Removal(m api.RemovalMap, l api.LowerLine) ([]api.Frac, api.Errno) {
	if e := checkLine(m, l); e != api.OK {
		return nil, e
	}
	var removals []api.Frac
	for zone := range m.Heights {
		removals = append(removals, lowest(removalTimesDen(m, l, zone), denOf(l)))
	}
	return removals, api.OK
}

// Least is the least sum of a line that lies below. On its way it is at most 4 * 10^16.
func Least(m api.RemovalMap) (api.Frac, api.Errno) {
	l, e := Reference(m)
	if e != api.OK {
		return api.Frac{}, e
	}
	sum := 0
	for zone, weight := range m.Weights {
		sum += weight * removalTimesDen(m, l, zone)
	}
	return lowest(sum, denOf(l)), api.OK
}

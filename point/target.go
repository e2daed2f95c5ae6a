package point

import (
	"slices"
	"strings"

	"speculum/api"
)

const maxDwell = 10000

func isLetter(r rune) bool {
	return 'a' <= r && r <= 'z' || 'A' <= r && r <= 'Z'
}

func isForeign(r rune) bool {
	return !isLetter(r) && !('0' <= r && r <= '9') && r != '-'
}

func isName(text string) bool {
	return areWithin(1, api.MaxName, len(text)) && isLetter(rune(text[0])) && !strings.ContainsFunc(text, isForeign)
}

// CheckTarget is the first error of a target.
func CheckTarget(t api.SkyTarget) api.Errno {
	switch {
	case !isName(t.Name):
		return api.ErrName
	case !areWithin(0, api.Turn-1, t.Azimuth) || !areWithin(0, maxHeight, t.Height):
		return api.ErrRange
	case !areWithin(0, api.MaxMinute, t.From, t.To) || !areWithin(1, maxDwell, t.Dwell):
		return api.ErrRange
	case t.To <= t.From:
		return api.ErrOrder
	}
	return api.OK
}

// checkBehind is the first error of a target behind others.
func checkBehind(before []api.SkyTarget, t api.SkyTarget) api.Errno {
	if e := CheckTarget(t); e != api.OK {
		return e
	}
	if slices.ContainsFunc(before, func(other api.SkyTarget) bool { return other.Name == t.Name }) {
		return api.ErrExists
	}
	return api.OK
}

// stop is a target that a mounting reaches on a day, with its turns and the positions by these.
type stop struct {
	api.SkyTarget
	turns, positions []int
}

// stopAt is the stop that a right mounting makes at a right target, if there is one.
func stopAt(m api.SkyMount, t api.SkyTarget, day int) (stop, api.Errno) {
	p := apparent(m, t, day)
	azimuth, height := p[0], p[1]
	if !areWithin(m.Low, m.High, height) {
		return stop{}, api.ErrBreak
	}
	s := stop{SkyTarget: t}
	for turn := up(m.Least-azimuth, api.Turn); azimuth+turn*api.Turn <= m.Most; turn++ {
		s.turns = append(s.turns, turn)
		s.positions = append(s.positions, azimuth+turn*api.Turn)
	}
	if len(s.turns) == 0 {
		return stop{}, api.ErrNone
	}
	return s, api.OK
}

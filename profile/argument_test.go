package profile_test

import (
	"math"
	"math/rand/v2"
	"slices"
	"strings"
	"testing"

	"speculum/api"
	"speculum/profile"
)

// roomy is a copy of a list that has room behind it, where something would be noticed that is appended.
func roomy[T any](l []T) []T {
	return slices.Grow(slices.Clone(l), 9)
}

// whole is all of the memory of a list.
func whole[T any](l []T) []T {
	return slices.Clone(l[:cap(l)])
}

// wipe overwrites all of the memory of lists.
func wipe(lists ...[]int) {
	for _, l := range lists {
		for i := range l[:cap(l)] {
			l[:cap(l)][i] = -77
		}
	}
}

// TestP1Readings checks that nothing is written into readings, and that results share no memory with them.
func TestP1Readings(t *testing.T) {
	x := validTask()
	x.l, x.heights, x.circle = roomy(x.l), roomy(x.heights), roomy(x.circle)
	bad := roomy(clashingReadings())
	double := roomy(append(chapterReadings(), chapterReadings()...))
	radii := roomy([]int{10, 20, 30})
	l, heights, circle, clashing, doubled, zones := whole(x.l), whole(x.heights), whole(x.circle), whole(bad), whole(double), whole(radii)
	for range 2 { // again, as results depend on the arguments only
		if e := agree(t, readingsError(t, x), knifeError(t, knife{radii, api.KnifeReading{}})); e != api.OK {
			t.Error(e)
		}
		ranges, _, _ := profile.Enclosure(x.zones, x.l)
		_, found, _ := profile.Enclosure(x.zones, bad)
		reaching, _ := profile.Reaching(x.zones, x.l, x.pair)
		needless, _ := profile.Needless(x.zones, double)
		more, _ := profile.AddReading(x.zones, x.l, x.r)
		n, e := profile.CheckClash(x.zones, bad, found)
		if len(ranges) != 3 || n != -10 || e != api.OK || !slices.Equal(reaching, []int{0, 50, 50}) || !slices.Equal(needless, []int{3, 4, 5}) || len(more) != 4 {
			t.Error(ranges, n, e, reaching, needless, more)
		}
		wipe(found, reaching, needless)
		clear(ranges[:cap(ranges)])
		clear(more[:cap(more)])
	}
	if !slices.Equal(l, whole(x.l)) || !slices.Equal(heights, whole(x.heights)) || !slices.Equal(circle, whole(x.circle)) ||
		!slices.Equal(clashing, whole(bad)) || !slices.Equal(doubled, whole(double)) || !slices.Equal(zones, whole(radii)) {
		t.Error("written into an argument")
	}
}

// TestP1Maps checks the same of fringe maps, turned maps and fits.
func TestP1Maps(t *testing.T) {
	x, m, y := validFringes(), validMaps(), validFitted()
	open := residue()
	x.f.Phases, x.loop, open.Phases = roomy(x.f.Phases), roomy(x.loop), roomy(open.Phases)
	y.heights, y.f.Nums = roomy(y.heights), roomy(y.f.Nums)
	lists := [][]int{x.f.Phases, x.loop, open.Phases, y.heights, y.f.Nums}
	for i := range m.Values {
		m.Values[i] = roomy(m.Values[i])
		lists = append(lists, m.Values[i])
	}
	for i := range y.terms {
		y.terms[i] = roomy(y.terms[i])
		lists = append(lists, y.terms[i])
	}
	var before [][]int
	for _, l := range lists {
		before = append(before, whole(l))
	}
	for range 2 {
		if e := agree(t, fringeError(t, x), turnedError(t, m), fittedError(t, y)); e != api.OK {
			t.Error(e)
		}
		heights, _, _ := profile.Unwrap(x.f)
		_, loop, _ := profile.Unwrap(open)
		residues, _ := profile.Residues(open)
		f, _ := profile.Fit(y.terms, y.heights)
		n, e := profile.CheckLoop(open, loop)
		if !slices.Equal(heights, []int{0, 400, 0, 100, 500, 900}) || max(n, -n) != 1000 || e != api.OK || len(residues) != 1 || !sameFit(f, y.f) {
			t.Error(heights, n, e, residues, f)
		}
		wipe(heights, loop, f.Nums)
		clear(residues)
		mirror, _ := profile.MirrorPart(m)
		rest, _ := profile.RestPart(m)
		clear(mirror)
		if len(mirror) != 6 || rest[0] != frac(-33330, 1) {
			t.Error(mirror, rest)
		}
		clear(rest)
	}
	for i, l := range lists {
		if !slices.Equal(before[i], whole(l)) {
			t.Error("written into an argument", i, l)
		}
	}
}

// TestP1AllArguments calls all functions with arguments of all kinds: they return.
func TestP1AllArguments(t *testing.T) {
	random := rand.New(rand.NewPCG(1, 5))
	numbers := []int{math.MinInt, math.MinInt + 1, -1000001, -501, -2, -1, 0, 1, 2, 3, 12, 24, 40, 100, 999, 1000000, 1000000001, math.MaxInt / 3, math.MaxInt - 1, math.MaxInt}
	n := func() int { return numbers[random.IntN(len(numbers))] }
	few := func() int { return []int{0, 1, 2, 3, 6, 21, 41, 145}[random.IntN(8)] }
	list := func() []int {
		var l []int
		for range few() {
			l = append(l, n())
		}
		return l
	}
	lists := func() [][]int {
		var l [][]int
		for range random.IntN(4) {
			l = append(l, list())
		}
		return l
	}
	for range 3000 {
		x := task{zones: n(), r: reading(n(), n(), n(), n()), pair: [2]int{n(), n()}, heights: list(), circle: list()}
		for range few() {
			x.l = append(x.l, reading(n(), n(), n(), n()))
		}
		y := fringes{api.FringeMap{Width: n(), Phases: list()}, n(), n(), list()}
		callReadings(x)
		callFringes(y)
		x.zones, x.l = 3, chapterReadings()
		callReadings(x)
		x.l = clashingReadings()
		callReadings(x)
		y.f = residue()
		callFringes(y)
		k := api.KnifeReading{Zone: n(), Slope: span(n(), n())}
		profile.CheckZones(list())
		profile.Reduced(list(), k)
		profile.Reduced([]int{10, 20, 30}, k)
		turnedError(t, maps(n(), lists()...))
		terms, heights, f := lists(), list(), api.TermFit{Nums: list(), Den: n()}
		profile.Fit(terms, heights)
		profile.CheckFit(terms, heights, f)
		profile.CheckFit([][]int{{1, 1}, {0, 1}}, []int{1, 2}, f)
		text := profile.FormatReading(api.MirrorReading{Mirror: strings.Repeat("\n ", random.IntN(2)), Reading: x.r})
		profile.ParseReading(text)
	}
}

// callReadings calls all functions of zones and readings.
func callReadings(x task) {
	profile.CheckReadings(x.zones, x.l)
	profile.Enclosure(x.zones, x.l)
	profile.CheckClash(x.zones, x.l, x.circle)
	profile.Between(x.zones, x.l, x.pair)
	profile.Reaching(x.zones, x.l, x.pair)
	profile.CheckHeights(x.zones, x.l, x.heights)
	profile.Widest(x.zones, x.l)
	profile.Needless(x.zones, x.l)
	profile.Gain(x.zones, x.l, x.r)
	profile.AddReading(x.zones, x.l, x.r)
}

// callFringes calls all functions of fringe maps.
func callFringes(x fringes) {
	profile.CheckFringes(x.f)
	profile.Step(x.f, x.from, x.to)
	profile.Residues(x.f)
	profile.Unwrap(x.f)
	profile.CheckLoop(x.f, x.loop)
}

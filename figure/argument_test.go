package figure_test

import (
	"math"
	"math/rand/v2"
	"slices"
	"strings"
	"testing"

	"speculum/api"
	"speculum/figure"
)

// roomy is a copy of a list that has room behind it, where something would be noticed that is appended.
func roomy[T any](l []T) []T {
	return slices.Grow(slices.Clone(l), 9)
}

// whole is all of the memory of a list.
func whole[T any](l []T) []T {
	return slices.Clone(l[:cap(l)])
}

// wipe overwrites all of the memory of lists.
func wipe(lists ...[]int) {
	for _, l := range lists {
		for i := range l[:cap(l)] {
			l[:cap(l)][i] = -77
		}
	}
}

// TestP1Arguments checks that nothing is written into arguments, and that results share no memory with them.
func TestP1Arguments(t *testing.T) {
	x, y, z := validLined(), validWork(), validRated()
	x.m = removalMap(roomy(x.m.Heights), roomy(x.m.Q), roomy(x.m.Weights))
	y.heights, y.wanted, y.wear, y.k.Wear, z.l = roomy(y.heights), roomy(y.wanted), roomy(y.wear), roomy(y.k.Wear), roomy(z.l)
	lists := [][]int{x.m.Heights, x.m.Q, x.m.Weights, y.heights, y.wanted}
	for i := range y.wear {
		y.wear[i], y.k.Wear[i] = roomy(y.wear[i]), roomy(y.k.Wear[i])
		lists = append(lists, y.wear[i], y.k.Wear[i])
	}
	var before [][]int
	for _, l := range lists {
		before = append(before, whole(l))
	}
	ranges := whole(z.l)
	for range 2 { // again, as results depend on the arguments only
		n, e := sessionsError(y)
		if agree(t, e, mapError(t, x), remainingError(t, y), timesError(t, y), fewestError(t, y), enclosureError(t, z)) != api.OK || n != 0 {
			t.Error(e, n)
		}
		removals, _ := figure.Removal(x.m, x.l)
		remaining, _ := figure.Remaining(y.heights, y.wear)
		same, _ := figure.Remaining(y.heights, nil)
		fewest, _ := figure.FewestSessions(y.heights, y.wanted, y.k)
		surface, _ := figure.Surface(z.l, z.t)
		if len(removals) != 4 || !slices.Equal(remaining, []int{2, 2, 2}) || !slices.Equal(same, []int{5, 3, 2}) || !slices.Equal(fewest, []int{1, 1}) || !slices.Equal(surface, []int{0, 1, 3}) {
			t.Error(removals, remaining, same, fewest, surface)
		}
		clear(removals[:cap(removals)])
		wipe(remaining, same, fewest, surface)
		deciding, e := figure.Deciding([]api.Range{{}, span(0, 2)}, tolerance(1, 1))
		pair, e2 := figure.Meets(y.heights, tolerance(3, 2))
		if deciding != 1 || pair != [2]int{} || agree(t, e, e2) != api.OK {
			t.Error(deciding, pair, e, e2)
		}
		l, _, _, _ := figure.Parse(chapterText)
		if !slices.Equal(l, chapterEnclosure()) {
			t.Error(l)
		}
		clear(l[:cap(l)])
	}
	for i, l := range lists {
		if !slices.Equal(before[i], whole(l)) {
			t.Error("written into an argument", i, l)
		}
	}
	if !slices.Equal(ranges, whole(z.l)) {
		t.Error("written into an enclosure", z.l)
	}
}

// TestP1AllArguments calls all functions with arguments of all kinds: they return.
func TestP1AllArguments(t *testing.T) {
	random := rand.New(rand.NewPCG(1, 6))
	numbers := []int{math.MinInt, math.MinInt + 1, -1000000001, -100001, -100000, -2, -1, 0, 1, 2, 3, 6, 100, 101, 1000, 100000, 200000, 1000000000, math.MaxInt / 3, math.MaxInt - 1, math.MaxInt}
	n := func() int { return numbers[random.IntN(len(numbers))] }
	few := func() int { return []int{0, 1, 2, 3, 6, 40, 41, 101}[random.IntN(8)] }
	list := func() []int {
		var l []int
		for range few() {
			l = append(l, n())
		}
		return l
	}
	lists := func() [][]int {
		var l [][]int
		for range random.IntN(4) {
			l = append(l, list())
		}
		return l
	}
	f := func() api.Frac { return frac(n(), n()) }
	for range 3000 {
		x := lined{removalMap(list(), list(), list()), line(f(), f(), n(), n())}
		callMaps(x)
		x.m = validLined().m
		callMaps(x)
		x.l.Start, x.l.Slope = frac(0, 1), frac(-1000000000, 1)
		callMaps(x)
		y := work{list(), list(), lists(), kinds(n(), n(), lists()...)}
		callSessions(y)
		z := rated{t: tolerance(n(), n()), pair: [2]int{n(), n()}}
		for range few() {
			z.l = append(z.l, span(n(), n()))
		}
		callEnclosures(z, y.heights)
		valid := validWork()
		y.heights, y.wanted = valid.heights, valid.wanted
		callSessions(y)
		y.wear, y.k.Wear = valid.wear, valid.k.Wear
		callSessions(y)
		z.l = chapterEnclosure()
		callEnclosures(z, y.heights)
		z.t = tolerance(3, 2)
		callEnclosures(z, y.heights)
		figure.Parse(strings.Repeat("tolerance 1 1\n", random.IntN(3)) + strings.Repeat("zone 0 0\n", few()) + strings.Repeat(" ", few()))
	}
}

// callMaps calls all functions of maps and lines.
func callMaps(x lined) {
	figure.CheckMap(x.m)
	figure.Mean(x.m)
	figure.Reference(x.m)
	figure.CheckReference(x.m, x.l)
	figure.Removal(x.m, x.l)
	figure.Least(x.m)
}

// callSessions calls all functions of sessions.
func callSessions(x work) {
	figure.Remaining(x.heights, x.wear)
	figure.CheckSessions(x.heights, x.wanted, x.wear)
	if len(x.wear) > 0 {
		figure.MostTimes(x.heights, x.wanted, x.wear[0])
	}
	figure.FewestSessions(x.heights, x.wanted, x.k)
}

// callEnclosures calls all functions of enclosures and tolerances.
func callEnclosures(x rated, heights []int) {
	figure.CheckEnclosure(x.l)
	figure.CheckTolerance(x.t)
	figure.Meets(heights, x.t)
	figure.PeakRange(x.l)
	figure.SlopeRange(x.l)
	figure.SquareRange(x.l)
	figure.Judge(x.l, x.t)
	figure.CheckRefused(x.l, x.t, x.pair)
	figure.Surface(x.l, x.t)
	figure.Deciding(x.l, x.t)
	figure.Print(x.l, x.t)
}

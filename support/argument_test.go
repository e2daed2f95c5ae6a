package support_test

import (
	"math"
	"math/rand/v2"
	"slices"
	"strings"
	"testing"

	"speculum/api"
	"speculum/support"
)

// roomy is a copy of a list that has room behind it, where something would be noticed that is appended.
func roomy[T any](l []T) []T {
	return slices.Grow(slices.Clone(l), 9)
}

// kept is the check that all of the memory of a list is as it was.
func kept[T comparable](t *testing.T, l []T) func() {
	before := slices.Clone(l[:cap(l)])
	return func() {
		t.Helper()
		if !slices.Equal(before, l[:cap(l)]) {
			t.Error("written into an argument", before, l[:cap(l)])
		}
	}
}

// wipe clears all of the memory of a result.
func wipe[T any](l []T) {
	clear(l[:cap(l)])
}

// TestP1Arguments checks that nothing is written into arguments, and that results share no memory with them.
func TestP1Arguments(t *testing.T) {
	x, y, z := validMount(), validMounting(), validDrive()
	x.l, x.shares, x.loads, x.at, x.forces, x.t = roomy(x.l), roomy(x.shares), roomy(x.loads), roomy(x.at), roomy(x.forces), roomy(x.t)
	y.l, z.l, z.errors = roomy(y.l), roomy(z.l), roomy(z.errors)
	peaks := roomy([]api.Range{span(0, 10), span(4, 5)})
	checks := []func(){kept(t, x.l), kept(t, x.shares), kept(t, x.loads), kept(t, x.at), kept(t, x.forces), kept(t, y.l), kept(t, z.l), kept(t, z.errors), kept(t, peaks)}
	for i := range x.t {
		x.t[i] = roomy(x.t[i])
		checks = append(checks, kept(t, x.t[i]))
	}
	for range 2 { // again, as results depend on the arguments only
		if e := agree(t, treeError(t, x), tableError(t, x), momentsError(t, y), trainError(t, z)); e != api.OK {
			t.Error(e)
		}
		points, _ := support.Points(x.l)
		shares, _ := support.Shares(x.l)
		fitted, _ := support.ArmsFor(x.l, x.loads)
		same, _ := support.ArmsFor(x.l, []int{4, 4, 1, 3})
		pivots, _ := support.Pivots(x.l, x.at)
		turned, _ := support.Unbalanced(x.l, x.forces)
		bent, _ := support.Deflections(x.t, x.l, x.weight)
		peak, _ := support.PeakToValley(peaks)
		convergents, _ := support.Convergents(frac(355, 113))
		parsed, _, _ := support.Parse(chapterText)
		if len(points) != 4 || !slices.Equal(shares, x.shares) || fitted[0].ArmLeft != 2 || !slices.Equal(same, x.l) || pivots[0][0] != frac(5, 3) || !slices.Equal(turned, []int{2}) {
			t.Error(points, shares, fitted, same, pivots, turned)
		}
		if !slices.Equal(bent, []api.Range{span(7, 8), span(21, 24)}) || peak != span(0, 6) || len(convergents) != 3 || !slices.Equal(parsed, x.l) {
			t.Error(bent, peak, convergents, parsed)
		}
		wipe(points)
		wipe(shares)
		wipe(fitted)
		wipe(same)
		wipe(pivots)
		wipe(turned)
		wipe(bent)
		wipe(convergents)
		wipe(parsed)
	}
	for _, check := range checks {
		check()
	}
}

// TestP1AllArguments calls all functions with arguments of all kinds: they return.
func TestP1AllArguments(t *testing.T) {
	random := rand.New(rand.NewPCG(1, 7))
	numbers := []int{math.MinInt, math.MinInt + 1, -1000000001, -1000000, -10000, -2, -1, 0, 1, 2, 3, 6, 100, 500, 501, 10000, 1000000, 1000000000, math.MaxInt / 3, math.MaxInt - 1, math.MaxInt}
	n := func() int { return numbers[random.IntN(len(numbers))] }
	few := func() int { return []int{0, 1, 2, 3, 4, 12, 13, 40, 41, 61}[random.IntN(10)] }
	word := func() string {
		return append([]string{"a", "b", "c", "p", "q", "r"}, badNames...)[random.IntN(6+random.IntN(len(badNames)))]
	}
	for range 3000 {
		x := mount{weight: n(), t: make([][]int, few())}
		y, z := mounting{nil, n(), n()}, drive{nil, n(), n(), n(), nil}
		var peaks []api.Range
		for range few() {
			x.l = append(x.l, rocker(word(), word(), word(), 1+random.IntN(3), n()))
			x.shares, x.loads, x.at, x.forces = append(x.shares, frac(n(), n())), append(x.loads, n()), append(x.at, [2]int{n(), n()}), append(x.forces, n())
			y.l, z.l, z.errors = append(y.l, axisLoad(n(), n(), n())), append(z.l, pair(n(), n())), append(z.errors, n())
			peaks = append(peaks, span(n(), n()))
		}
		for i := range x.t {
			x.t[i] = x.loads
		}
		callAll(x, y, z)
		x.l = someTree(random, 1+random.IntN(40), 10000)
		callAll(x, y, z)
		x.t = validMount().t
		x.l, y.l, z.l = chapterTree(), validMounting().l, chapterTrain()
		callAll(x, y, z)
		support.PeakToValley(peaks)
		f := frac(n(), n())
		support.Convergents(f)
		support.BestPair(f, n(), n())
		support.BestPair(f, 1, 500)
		support.CheckBest(f, n(), n(), pair(n(), n()))
		support.CheckBest(f, 1, 500, pair(n(), n()))
		support.Parse(strings.Repeat(strings.Join([]string{"rocker", word(), word(), word(), "1 1\n"}, " "), few()))
	}
}

// callAll calls all functions of rockers, tables, loads and trains.
func callAll(x mount, y mounting, z drive) {
	support.CheckTree(x.l)
	support.Top(x.l)
	support.Points(x.l)
	support.Shares(x.l)
	support.CheckShares(x.l, x.shares)
	support.ArmsFor(x.l, x.loads)
	support.Pivots(x.l, x.at)
	support.Unbalanced(x.l, x.forces)
	support.CheckTable(x.t)
	support.Deflections(x.t, x.l, x.weight)
	support.Print(x.l)
	support.Moments(y.l)
	support.Counterweight(y.l, y.axis, y.arm)
	support.CheckTrain(z.l)
	support.Ratio(z.l)
	support.Returns(z.l)
	support.Rate(z.l, z.steps, z.perTurn)
	support.Drift(z.l, [2]int{z.steps, z.perTurn}, z.seconds)
	support.Periodic(z.l, z.errors)
	if len(z.l) > 0 {
		support.MeetAgain(z.l[0])
	}
}

package point_test

import (
	"math"
	"math/rand/v2"
	"slices"
	"strings"
	"testing"

	"speculum/api"
	"speculum/point"
)

// roomy is a copy of a list that has room behind it, where something would be noticed that is appended.
func roomy[T any](l []T) []T {
	return slices.Grow(slices.Clone(l), 9)
}

// kept is the check that all of the memory of a list is as it was.
func kept[T comparable](t *testing.T, l []T) func() {
	before := slices.Clone(l[:cap(l)])
	return func() {
		t.Helper()
		if !slices.Equal(before, l[:cap(l)]) {
			t.Error("written into an argument", before, l[:cap(l)])
		}
	}
}

// wipe clears all of the memory of results.
func wipe[T any](lists ...[]T) {
	for _, l := range lists {
		clear(l[:cap(l)])
	}
}

// roomyMount is a mounting whose tables have room behind them.
func roomyMount(m api.SkyMount) api.SkyMount {
	m.Refraction, m.Drift = roomy(m.Refraction), roomy(m.Drift)
	return m
}

// TestP1Arguments checks that nothing is written into arguments, and that results share no memory with them.
func TestP1Arguments(t *testing.T) {
	s, o, v, x := validScrewed(), validObserved(), validSight(), validJourney()
	s.l, o.l, o.m.Terms, o.shapes = roomy(s.l), roomy(o.l), roomy(o.m.Terms), roomy(o.shapes)
	v.m, x.m, x.l, x.turns, x.potentials = roomyMount(v.m), roomyMount(x.m), roomy(x.l), roomy(x.turns), roomy(x.potentials)
	checks := []func(){
		kept(t, s.l), kept(t, o.m.Terms), kept(t, o.shapes), kept(t, v.m.Refraction), kept(t, v.m.Drift), kept(t, x.m.Refraction), kept(t, x.m.Drift), kept(t, x.l), kept(t, x.turns),
	}
	for i := range o.l {
		o.l[i].Shapes = roomy(o.l[i].Shapes)
		x.potentials[i] = roomy(x.potentials[i])
		checks = append(checks, kept(t, o.l[i].Shapes), kept(t, x.potentials[i]))
	}
	for range 2 { // again, as results depend on the arguments only
		e := agree(t, screwsError(t, s), starsError(t, o), modelError(t, o), mountError(t, v), targetError(t, v), sightError(t, v), journeyError(t, x), printError(t, x))
		if e != api.OK || len(x.potentials[:cap(x.potentials)][3]) != 0 || len(o.l[:cap(o.l)][3].Shapes) != 0 {
			t.Error(e)
		}
		m, _ := point.Fit(o.l)
		turns, _ := point.Turns(v.m, v.t, v.day)
		c, _, _ := point.Choose(x.m, x.l, x.begin())
		order, _, _ := point.BestOrder(x.m, x.l, x.begin())
		times, _, _ := point.Times(x.m, x.l, x.at, x.turns)
		parsed, _, _ := point.Parse("t0 600000 5000 0 1000 5\nt1 1200000 5000 0 1000 5\nt2 500000 5000 0 1000 5\n")
		if !sameModel(m, skyModel(6, 5, 9)) || !slices.Equal(turns, []int{-1, 0}) || !slices.Equal(c.Turns, []int{0, -1, 0}) || !slices.EqualFunc(c.Potentials, [][]int{{600000}, {10001296000}, {10001892000}}, slices.Equal[[]int]) {
			t.Error(m, turns, c)
		}
		if !slices.Equal(order, []int{1, 2, 0}) || !slices.Equal(times, []int{16, 28, 39}) || !slices.Equal(parsed, x.l) {
			t.Error(order, times, parsed)
		}
		wipe(c.Potentials[0])
		if c.Turns[1] != -1 || c.Potentials[1][0] != 10001296000 { // no memory that two lists of a result share
			t.Error(c)
		}
		wipe(m.Terms, turns, c.Turns, c.Potentials[1], c.Potentials[2], order, times)
		wipe(c.Potentials)
		wipe(parsed)
	}
	for _, check := range checks {
		check()
	}
}

// wild is arguments of all kinds.
type wild struct {
	random *rand.Rand
}

func (w wild) number() int {
	numbers := []int{
		math.MinInt, math.MinInt + 1, -1000000000001, -25920001, -1296000, -648000, -100, -2, -1, 0, 1, 2, 3, 99, 1000, 100000, 324000, 1000000, 1295999, 10000000, 25920000, 1000000000000, 1000000000001, math.MaxInt / 3, math.MaxInt - 1, math.MaxInt,
	}
	return numbers[w.random.IntN(len(numbers))]
}

func (w wild) few() int {
	return []int{0, 1, 2, 3, 4, 6, 7, 20, 21, 40, 41}[w.random.IntN(11)]
}

func (w wild) numbers() []int {
	var l []int
	for range w.few() {
		l = append(l, w.number())
	}
	return l
}

func (w wild) name() string {
	return append([]string{"a", "b", "t0", "t1"}, badNames...)[w.random.IntN(4+len(badNames))]
}

func (w wild) table() []api.SkyRow {
	var l []api.SkyRow
	for range w.few() {
		l = append(l, api.SkyRow{At: w.number(), Value: w.number()})
	}
	return l
}

func (w wild) mount() api.SkyMount {
	return api.SkyMount{Least: w.number(), Most: w.number(), Low: w.number(), High: w.number(), Speed: w.number(), Refraction: w.table(), Drift: w.table()}
}

func (w wild) target() api.SkyTarget {
	return target(w.name(), w.number(), w.number(), w.number(), w.number(), w.number())
}

func (w wild) journey() journey {
	x := journey{m: w.mount(), at: [3]int{w.number(), w.number(), w.number()}, turns: w.numbers()}
	for range w.few() {
		x.l = append(x.l, w.target())
		x.potentials = append(x.potentials, w.numbers())
	}
	return x
}

func (w wild) observed() observed {
	o := observed{m: api.SkyModel{Terms: w.numbers(), Den: w.number()}, shapes: w.numbers()}
	for range w.few() {
		o.l = append(o.l, api.SkyStar{Shapes: w.numbers(), Error: w.number()})
	}
	return o
}

// TestP1AllArguments calls all functions with arguments of all kinds: they return.
func TestP1AllArguments(t *testing.T) {
	w := wild{rand.New(rand.NewPCG(1, 9))}
	for range 3000 {
		s := screwed{off: [2]int{w.number(), w.number()}}
		for range w.few() {
			s.l = append(s.l, [2]int{w.number(), w.number()})
		}
		point.CheckScrews(s.l)
		point.Collimate(s.l, s.off)
		point.Collimate(chapterScrews(), s.off)
		o := w.observed()
		callModels(o)
		callModels(observed{someStars(w.random), o.m, o.shapes})
		callModels(observed{o.l, skyModel(w.number(), w.number(), w.number()), []int{w.number(), w.number()}})
		point.CheckTable(w.table())
		point.TableAt(w.table(), w.number())
		point.TableAt(table(0, 5, 7, 9), w.number())
		point.Way(w.number(), w.number())
		x := w.journey()
		callTours(x)
		right := someJourney(w.random, w.few())
		callTours(right)
		right.turns, right.potentials, right.at[2] = x.turns, x.potentials, w.number()
		callTours(right)
		x.m = right.m
		callTours(x)
		point.Parse(strings.Repeat(point.FormatTarget(w.target())+"\n", w.few()))
		point.ParseTarget(strings.Join([]string{w.name(), w.name(), "1", "2", "3", w.name()}, " "))
	}
}

// callModels calls all functions of stars and models.
func callModels(o observed) {
	point.CheckStars(o.l)
	point.Fit(o.l)
	point.CheckModel(o.m)
	point.CheckFit(o.l, o.m)
	point.Predicted(o.m, o.shapes)
}

// callTours calls all functions of mountings, targets and tours.
func callTours(x journey) {
	point.CheckMount(x.m)
	if len(x.l) > 0 {
		point.CheckTarget(x.l[0])
		point.Apparent(x.m, x.l[0], x.at[0])
		point.Turns(x.m, x.l[0], x.at[0])
	}
	point.CheckTour(x.m, x.l, x.begin())
	point.CheckChoice(x.m, x.l, x.begin(), x.turns)
	point.CheckLeast(x.m, x.l, x.begin(), x.potentials)
	point.Choose(x.m, x.l, x.begin())
	point.Times(x.m, x.l, x.at, x.turns)
	point.Print(x.l)
	if len(x.l) < 6 {
		point.BestOrder(x.m, x.l, x.begin())
	}
}

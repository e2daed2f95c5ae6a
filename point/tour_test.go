package point_test

import (
	"math"
	"math/rand/v2"
	"slices"
	"strconv"
	"testing"

	"speculum/api"
	"speculum/point"
)

// journey is the arguments of all functions of tours, of which valid ones are accepted: at is a day, a position and a
// minute.
type journey struct {
	m          api.SkyMount
	l          []api.SkyTarget
	at         [3]int
	turns      []int
	potentials [][]int
}

func (x journey) begin() [2]int {
	return [2]int{x.at[0], x.at[1]}
}

// flatMount is a mounting without refraction or drift that sees all heights.
func flatMount(least, most, speed int) api.SkyMount {
	return api.SkyMount{Least: least, Most: most, High: 324000, Speed: speed, Refraction: table(0, 0), Drift: table(0, 0)}
}

// tourTargets are targets at azimuths, from the minute 0 to 1000, of 5 minutes each.
func tourTargets(azimuths ...int) []api.SkyTarget {
	var l []api.SkyTarget
	for i, azimuth := range azimuths {
		l = append(l, target("t"+strconv.Itoa(i), azimuth, 5000, 0, 1000, 5))
	}
	return l
}

// chapterJourney is the tour of the chapter's examples.
func chapterJourney() journey {
	return journey{
		flatMount(-700000, 1300000, 100000), tourTargets(600000, 1200000, 500000), [3]int{0, 0, 10}, []int{0, -1, 0},
		[][]int{{10000696000, 600000}, {10001296000, 1200000}, {10001892000}},
	}
}

// validJourney is a tour by a cable of less than a turn, whose targets have a turn each.
func validJourney() journey {
	x := chapterJourney()
	x.m.Least, x.m.Most, x.m.Low, x.m.High = -100000, 1190000, 1000, 300000
	x.m.Refraction, x.m.Drift = table(0, 0, 1, 0, 2, 0), table(0, 0, 1, 0, 2, 0)
	x.potentials = [][]int{{600000}, {10001296000}, {10001892000}}
	return x
}

func tourError(t *testing.T, x journey) (int, api.Errno) {
	t.Helper()
	n, e := point.CheckTour(x.m, x.l, x.begin())
	if e == api.OK && n != 0 {
		t.Error("a number without an error", n)
	}
	return n, e
}

func choiceError(t *testing.T, x journey) api.Errno {
	t.Helper()
	cost, e := point.CheckChoice(x.m, x.l, x.begin(), x.turns)
	none(t, e, cost == 0)
	return e
}

func leastError(t *testing.T, x journey) api.Errno {
	t.Helper()
	bound, e := point.CheckLeast(x.m, x.l, x.begin(), x.potentials)
	none(t, e, bound == 0)
	return e
}

func chooseError(t *testing.T, x journey) api.Errno {
	t.Helper()
	c, cost, e := point.Choose(x.m, x.l, x.begin())
	none(t, e, c.Turns == nil && c.Potentials == nil && cost == 0)
	return e
}

func orderError(t *testing.T, x journey) api.Errno {
	t.Helper()
	order, cost, e := point.BestOrder(x.m, x.l, x.begin())
	none(t, e, order == nil && cost == 0)
	return e
}

// timesError is the error of Times, which may tell a number beside ErrLate only.
func timesError(t *testing.T, x journey) api.Errno {
	t.Helper()
	times, n, e := point.Times(x.m, x.l, x.at, x.turns)
	none(t, e, times == nil)
	if e != api.ErrLate && n != 0 {
		t.Error("a number beside", e, n)
	}
	return e
}

// journeyError is the error of all functions of tours, if the other arguments are valid.
func journeyError(t *testing.T, x journey) api.Errno {
	t.Helper()
	_, e := tourError(t, x)
	return agree(t, e, choiceError(t, x), leastError(t, x), chooseError(t, x), orderError(t, x), timesError(t, x))
}

// tourFaults are the faults of a tour of three targets.
func tourFaults() []fault[journey] {
	faults := mountFaults(func(x *journey) *api.SkyMount { return &x.m })
	faults = append(faults, numberFaults(func(x *journey) *int { return &x.at[0] }, 0, 100000, api.ErrRange)...)
	faults = append(faults, numberFaults(func(x *journey) *int { return &x.at[1] }, -100000, 1190000, api.ErrRange)...)
	faults = append(faults,
		fault[journey]{func(x *journey) { x.l = make([]api.SkyTarget, 21) }, api.ErrLarge},
		fault[journey]{func(x *journey) { x.l = slices.Repeat(tourTargets(0, 600000, 5), 7) }, api.ErrLarge},
		fault[journey]{func(x *journey) { x.l = tourTargets(make([]int, 21)...) }, api.ErrLarge},
	)
	for n := range 3 {
		of := func(x *journey) *api.SkyTarget { return &x.l[n] }
		faults = append(faults, targetFaults(of)...)
		for before := range n {
			faults = append(faults, fault[journey]{func(x *journey) { x.l[n].Name = x.l[before].Name }, api.ErrExists})
		}
		for _, height := range []int{0, 999, 300001, 324000} {
			faults = append(faults, fault[journey]{func(x *journey) { x.l[n].Height = height }, api.ErrBreak})
		}
		for _, azimuth := range []int{1190001, 1195999} {
			faults = append(faults, fault[journey]{func(x *journey) { x.l[n].Azimuth = azimuth }, api.ErrNone})
		}
	}
	return faults
}

func TestP9_5TourFaults(t *testing.T) {
	checkFaults(t, validJourney, journeyError, tourFaults())
	checkLimits(t, validJourney, chooseError, func(x *journey) *int { return &x.at[0] }, 0, 100000)
	checkLimits(t, validJourney, chooseError, func(x *journey) *int { return &x.at[1] }, -100000, 1190000)
	checkLimits(t, validJourney, chooseError, func(x *journey) *int { return &x.l[1].Azimuth }, 1190000, 1196000)
	checkLimits(t, validJourney, chooseError, func(x *journey) *int { return &x.l[1].Height }, 1000, 300000)
}

// TestP9_5Numbers checks which target is named.
func TestP9_5Numbers(t *testing.T) {
	valid := func() journey {
		return journey{m: validJourney().m, l: tourTargets(make([]int, 20)...)}
	}
	for n := range 20 {
		for _, c := range []struct {
			spoil func(t *api.SkyTarget)
			want  api.Errno
		}{
			{func(t *api.SkyTarget) { t.Name = "" }, api.ErrName},
			{func(t *api.SkyTarget) { t.Azimuth = -1 }, api.ErrRange},
			{func(t *api.SkyTarget) { t.To = 0 }, api.ErrOrder},
			{func(t *api.SkyTarget) { t.Name = "t0" }, api.ErrExists},
			{func(t *api.SkyTarget) { t.Height = 0 }, api.ErrBreak},
			{func(t *api.SkyTarget) { t.Azimuth = 1190001 }, api.ErrNone},
		} {
			x := valid()
			for later := n; later < 20; later += 5 {
				c.spoil(&x.l[later])
			}
			want := n
			if c.want == api.ErrExists && n == 0 { // the first one has its own name
				want = 5
			}
			if got, e := tourError(t, x); got != want || e != c.want {
				t.Error(n, got, e, c.want)
			}
			for _, first := range []fault[journey]{
				{func(x *journey) { x.m.Speed = 0 }, api.ErrRange},
				{func(x *journey) { x.m.Least = 1190001 }, api.ErrOrder},
				{func(x *journey) { x.m.Drift = nil }, api.ErrShape},
				{func(x *journey) { x.at[0] = -1 }, api.ErrRange},
				{func(x *journey) { x.at[1] = 1190001 }, api.ErrRange},
				{func(x *journey) { x.l = append(slices.Clone(x.l), api.SkyTarget{}) }, api.ErrLarge},
			} { // beside which there is no number
				y := x
				first.spoil(&y)
				if got, e := tourError(t, y); got != 0 || e != first.want {
					t.Error(n, got, e, first.want)
				}
			}
		}
		x := valid()
		x.l = x.l[:n]
		if got, e := tourError(t, x); got != 0 || e != api.OK {
			t.Error(n, got, e)
		}
	}
	if n, e := tourError(t, valid()); n != 0 || e != api.OK {
		t.Error(n, e)
	}
}

// TestP9_5Narrow checks a cable with one position.
func TestP9_5Narrow(t *testing.T) {
	for _, position := range []int{-25920000, -1296001, -1, 0, 7, 1296000, 25920000} {
		azimuth := ((position % 1296000) + 1296000) % 1296000
		x := journey{m: flatMount(position, position, 1), l: tourTargets(azimuth, azimuth), at: [3]int{0, position, 3}}
		c, cost, e := point.Choose(x.m, x.l, x.begin())
		want := (position - azimuth) / 1296000
		if !slices.Equal(c.Turns, []int{want, want}) || cost != 0 || e != api.OK {
			t.Error(position, c, cost, e)
		}
		if times, _, e := point.Times(x.m, x.l, x.at, c.Turns); !slices.Equal(times, []int{3, 8}) || e != api.OK {
			t.Error(times, e)
		}
		x.at[1]++
		if e := chooseError(t, x); e != api.ErrRange {
			t.Error(position, e)
		}
		x.at[1]--
		x.l[1].Azimuth = (azimuth + 1) % 1296000
		if n, e := tourError(t, x); n != 1 || e != api.ErrNone {
			t.Error(position, n, e)
		}
	}
}

// TestP9_5Empty checks tours without targets.
func TestP9_5Empty(t *testing.T) {
	x := journey{m: validJourney().m}
	cost, e := point.CheckChoice(x.m, x.l, x.begin(), nil)
	bound, e2 := point.CheckLeast(x.m, x.l, x.begin(), nil)
	c, least, e3 := point.Choose(x.m, x.l, x.begin())
	order, best, e4 := point.BestOrder(x.m, x.l, x.begin())
	times, n, e5 := point.Times(x.m, x.l, x.at, nil)
	if agree(t, e, e2, e3, e4, e5) != api.OK || cost != 0 || bound != 0 || least != 0 || best != 0 || n != 0 {
		t.Error(cost, bound, least, best, n, e)
	}
	if len(c.Turns) != 0 || len(c.Potentials) != 0 || len(order) != 0 || len(times) != 0 {
		t.Error(c, order, times)
	}
	x.turns, x.potentials = []int{0}, [][]int{nil}
	if e := agree(t, choiceError(t, x), leastError(t, x), timesError(t, x)); e != api.ErrShape {
		t.Error(e)
	}
}

// choiceFaults are the faults of a choice of three turns.
func choiceFaults() []fault[journey] {
	var faults []fault[journey]
	for _, turns := range [][]int{nil, {}, {0, -1}, {0, -1, 0, 0}, {9, 9, 9, 9}, make([]int, 21)} {
		faults = append(faults, fault[journey]{func(x *journey) { x.turns = turns }, api.ErrShape})
	}
	for n, turns := range [][]int{{-1, 1, -20, math.MinInt, math.MaxInt}, {0, -2, 1, math.MinInt, math.MaxInt}, {-1, 1, 20, math.MinInt, math.MaxInt}} {
		for _, turn := range turns {
			faults = append(faults, fault[journey]{func(x *journey) { x.turns = slices.Insert(slices.Delete(slices.Clone(x.turns), n, n+1), n, turn) }, api.ErrMissing})
		}
	}
	return faults
}

func TestP9_6ChoiceFaults(t *testing.T) {
	checkFaults(t, validJourney, choiceError, append(tourFaults(), choiceFaults()...))
}

func TestP9_6CheckChoice(t *testing.T) {
	chapter := chapterJourney()
	for _, x := range []struct {
		least, most, begin int
		l                  []api.SkyTarget
		turns              []int
		want               int
	}{
		{-700000, 1300000, 0, chapter.l, []int{0, 0, 0}, 10001900000}, {-700000, 1300000, 0, chapter.l, []int{0, -1, 0}, 10001892000}, {-700000, 1300000, 0, chapter.l, []int{-1, -1, 0}, 10001892000}, {-700000, 1300000, 0, chapter.l, []int{-1, 0, 0}, 30003292000},
		{-700000, 1300000, -700000, chapter.l[:1], []int{-1}, 4000}, {-700000, 1300000, 1300000, chapter.l[:1], []int{0}, 10000700000},
		{0, 1296000, 0, tourTargets(648000), []int{0}, 648000}, {0, 1296000, 0, tourTargets(648001), []int{0}, 10000648001}, {0, 1296000, 1296000, tourTargets(648000), []int{0}, 648000}, {0, 1296000, 1296000, tourTargets(647999), []int{0}, 10000648001},
		{0, 1296000, 5, tourTargets(0), []int{1}, 10001295995}, {0, 1296000, 5, tourTargets(0), []int{0}, 5}, {0, 0, 0, tourTargets(0, 0), []int{0, 0}, 0},
		{-25920000, 25920000, -25920000, tourTargets(0, 0, 0), []int{20, -20, 20}, 3*51840000 + 30000000000},
	} {
		m := flatMount(x.least, x.most, 1)
		if cost, e := point.CheckChoice(m, x.l, [2]int{0, x.begin}, x.turns); cost != x.want || e != api.OK {
			t.Error(x, cost, e)
		}
	}
	var turns []int
	for n := range 20 {
		turns = append(turns, 20-n%2*40)
	}
	cost, e := point.CheckChoice(flatMount(-25920000, 25920000, 1), tourTargets(make([]int, 20)...), [2]int{0, -25920000}, turns)
	if cost != 20*(51840000+10000000000) || e != api.OK {
		t.Error(cost, e)
	}
}

// TestP9_6Drift checks that positions are those of the day.
func TestP9_6Drift(t *testing.T) {
	m := flatMount(-1296000, 1296000, 1)
	m.Drift = table(0, 0, 1000, 1000)
	m.Refraction, m.High = table(0, 2000, 324000, 0), 163000
	l := []api.SkyTarget{target("x", 1295900, 162000, 0, 9, 1)}
	for _, x := range []struct{ day, turn, want int }{{200, 0, 100}, {200, -1, 1295900 + 10000000000}, {99, -1, 1}, {99, 0, 1295999 + 10000000000}, {1000, 0, 900}, {100000, 0, 900}} {
		if cost, e := point.CheckChoice(m, l, [2]int{x.day, 0}, []int{x.turn}); cost != x.want || e != api.OK {
			t.Error(x, cost, e)
		}
	}
	m.High--
	if n, e := point.CheckTour(m, l, [2]int{0, 0}); n != 0 || e != api.ErrBreak {
		t.Error(n, e)
	}
}

// positionsBy is the positions of a target by its turns, in their order.
func positionsBy(m api.SkyMount, t api.SkyTarget, day int) []int {
	turns, _ := turnsBy(m, t, day)
	var positions []int
	for _, turn := range turns {
		positions = append(positions, apparentBy(m, t, day)[0]+turn*1296000)
	}
	return positions
}

// costBy is the cost of a way.
func costBy(from, to int) int {
	if from > to {
		from, to = to, from
	}
	if 2*(to-from) > 1296000 {
		return 10000000000 + to - from
	}
	return to - from
}

// someJourney is a right tour of targets, with no choice.
func someJourney(random *rand.Rand, targets int) journey {
	x := journey{m: someMount(random)}
	for x.m.Most-x.m.Least > 9000000 && random.IntN(10) > 0 { // not too many turns
		x.m = someMount(random)
	}
	x.m.Low, x.m.High = 0, 324000
	if len(x.m.Refraction) > 1 {
		x.m.Refraction = table(0, 2000, 324000, 0)
	} else {
		x.m.Refraction = table(0, 0)
	}
	x.at = [3]int{random.IntN(100001), x.m.Least + random.IntN(x.m.Most-x.m.Least+1), random.IntN(2000)}
	few := []int{x.m.Least, x.m.Most, x.at[1], x.m.Least + random.IntN(x.m.Most-x.m.Least+1)}
	for n := range targets {
		position := x.m.Least + random.IntN(x.m.Most-x.m.Least+1)
		if random.IntN(4) == 0 { // positions that are of several targets
			position = few[random.IntN(4)]
		}
		t := someTarget(random, "t"+strconv.Itoa(n))
		t.Azimuth = 0
		t.Azimuth = ((position-apparentBy(x.m, t, x.at[0])[0])%1296000 + 1296000) % 1296000
		x.l = append(x.l, t)
	}
	return x
}

// someChoice is any choice of a right tour.
func someChoice(random *rand.Rand, x journey) []int {
	var turns []int
	for _, t := range x.l {
		of, _ := turnsBy(x.m, t, x.at[0])
		turns = append(turns, of[random.IntN(len(of))])
	}
	return turns
}

func TestP9_11Unwindings(t *testing.T) {
	random := rand.New(rand.NewPCG(11, 9))
	counts := map[bool]int{}
	for range 5000 {
		x := someJourney(random, random.IntN(21))
		x.turns = someChoice(random, x)
		cost, e := point.CheckChoice(x.m, x.l, x.begin(), x.turns)
		if e != api.OK {
			t.Fatal(x, e)
		}
		from, ways, unwindings := x.at[1], 0, 0
		for n, turn := range x.turns {
			to := apparentBy(x.m, x.l[n], x.at[0])[0] + turn*1296000
			if to < x.m.Least || to > x.m.Most {
				t.Fatal("beyond the cable", x, n, to)
			}
			way, unwinds, e := point.Way(from, to)
			if e != api.OK {
				t.Fatal(x, n, e)
			}
			if unwinds {
				unwindings++
			}
			counts[unwinds]++
			from, ways = to, ways+way
		}
		if cost != ways+unwindings*10000000000 || cost/10000000000 != unwindings || cost >= 1000000000000 {
			t.Fatal(x, cost, ways, unwindings)
		}
	}
	if counts[true] < 3000 || counts[false] < 3000 {
		t.Error("too few of a kind", counts)
	}
}

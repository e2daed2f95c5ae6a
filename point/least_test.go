package point_test

import (
	"math"
	"math/rand/v2"
	"slices"
	"testing"

	"speculum/api"
	"speculum/point"
)

// potentialFaults are the faults of potentials of three targets with a turn each.
func potentialFaults() []fault[journey] {
	var faults []fault[journey]
	for _, potentials := range [][][]int{
		nil, {}, {{0}, {0}}, {{0}, {0}, {0}, {0}}, {{0}, {0}, {0}, {}}, make([][]int, 3), make([][]int, 21), {{}, {0}, {0}}, {{0}, nil, {0}}, {{0}, {0}, {}}, {{0, 0}, {0}, {0}}, {{0}, {0, 0}, {0}}, {{0}, {0}, {0, 0}},
		{{1000000000001}, {0}, {0, 0}}, {{1000000000001}, {0}, {}}, {{math.MinInt}, {0}},
	} {
		faults = append(faults, fault[journey]{func(x *journey) { x.potentials = potentials }, api.ErrShape})
	}
	set := func(n, potential int) func(x *journey) {
		return func(x *journey) {
			x.potentials = slices.Clone(x.potentials)
			x.potentials[n] = []int{potential}
		}
	}
	for n := range 3 {
		for _, potential := range []int{-1000000000001, 1000000000001, math.MinInt, math.MaxInt} {
			faults = append(faults, fault[journey]{set(n, potential), api.ErrRange})
		}
	}
	for _, proof := range [][3]int{
		{600001, 600001, 600001}, {1000000000000, 0, 0}, {600000, 10001296001, 0}, {0, 10000696001, 0}, {600000, 10001296000, 10001892001}, {0, 1000000000000, 0}, {0, 0, 1000000000000}, {-1000000000000, 0, 0}, {0, -1000000000000, 0},
	} {
		faults = append(faults, fault[journey]{func(x *journey) { x.potentials = [][]int{{proof[0]}, {proof[1]}, {proof[2]}} }, api.ErrProof})
	}
	return faults
}

func TestP9_6LeastFaults(t *testing.T) {
	checkFaults(t, validJourney, leastError, append(tourFaults(), potentialFaults()...))
}

func TestP9_6CheckLeast(t *testing.T) {
	x := chapterJourney()
	for _, c := range []struct {
		potentials [][]int
		bound      int
		want       api.Errno
	}{
		{x.potentials, 10001892000, api.OK},
		{[][]int{{0, 0}, {0, 0}, {5}}, 5, api.OK}, {[][]int{{0, 0}, {0, 0}, {596000}}, 596000, api.OK}, {[][]int{{0, 0}, {0, 0}, {596001}}, 0, api.ErrProof}, {[][]int{{0, 0}, {104000, 0}, {700000}}, 700000, api.OK}, {[][]int{{0, 0}, {104001, 0}, {700001}}, 700001, api.OK},
		{[][]int{{0, 600000}, {0, 0}, {5}}, 5, api.OK}, {[][]int{{0, 600001}, {0, 0}, {5}}, 0, api.ErrProof}, {[][]int{{10000696000, 0}, {0, 0}, {0}}, 0, api.OK}, {[][]int{{10000696001, 0}, {0, 0}, {0}}, 0, api.ErrProof},
		{[][]int{{0, 0}, {600000, 600000}, {0}}, 0, api.OK}, {[][]int{{0, 0}, {600001, 0}, {0}}, 0, api.ErrProof}, {[][]int{{0, 0}, {0, 600001}, {0}}, 0, api.ErrProof},
		{[][]int{{-1000000000000, -1000000000000}, {-1000000000000, -1000000000000}, {-1000000000000}}, -1000000000000, api.OK},
		{[][]int{{-1000000000000, 0}, {-1000000000000, -989998104000}, {-999999404000}}, -999999404000, api.OK}, {[][]int{{-1000000000000, 0}, {-1000000000000, -989998104000}, {-999999403999}}, 0, api.ErrProof}, {[][]int{{-1000000000000, 0}, {-1000000000000, -989998103999}, {-999999404000}}, 0, api.ErrProof},
		{[][]int{{0, 0}, {0, 0}, {-7}}, -7, api.OK}, {[][]int{{0, 0}, {0, 0}, {}}, 0, api.ErrShape}, {[][]int{{0, 0}, {0}, {5}}, 0, api.ErrShape}, {[][]int{{0, 0}, {0, 0}}, 0, api.ErrShape}, {[][]int{{0, 0}, {0, 0, 0}, {0}}, 0, api.ErrShape},
	} {
		if bound, e := point.CheckLeast(x.m, x.l, x.begin(), c.potentials); bound != c.bound || e != c.want {
			t.Error(c, bound, e)
		}
	}
	// the bound is the least potential of the last target
	if bound, e := point.CheckLeast(x.m, x.l[:2], x.begin(), x.potentials[:2]); bound != 1200000 || e != api.OK {
		t.Error(bound, e)
	}
	if bound, e := point.CheckLeast(x.m, x.l[:1], x.begin(), [][]int{{-3, 600000}}); bound != -3 || e != api.OK {
		t.Error(bound, e)
	}
}

// proves tells whether potentials prove a bound, by the definition.
func proves(x journey, potentials [][]int) bool {
	before := []int{x.at[1]}
	costs := []int{0}
	for n, t := range x.l {
		positions := positionsBy(x.m, t, x.at[0])
		for i, to := range positions {
			for j, from := range before {
				if potentials[n][i] > costs[j]+costBy(from, to) {
					return false
				}
			}
		}
		before, costs = positions, potentials[n]
	}
	return true
}

// choicesOf is how many choices there are.
func choicesOf(x journey) int {
	choices := 1
	for _, t := range x.l {
		choices *= len(positionsBy(x.m, t, x.at[0]))
	}
	return choices
}

// cheapest is the least cost of all choices from a position on, by trial.
func cheapest(from int, positions [][]int) int {
	if len(positions) == 0 {
		return 0
	}
	least := math.MaxInt
	for _, to := range positions[0] {
		least = min(least, costBy(from, to)+cheapest(to, positions[1:]))
	}
	return least
}

// leastCost is the least cost of all choices of a tour, by trial.
func leastCost(x journey) int {
	var positions [][]int
	for _, t := range x.l {
		positions = append(positions, positionsBy(x.m, t, x.at[0]))
	}
	return cheapest(x.at[1], positions)
}

// triable is a tour with not too many choices.
func triable(random *rand.Rand, targets int) journey {
	x := someJourney(random, targets)
	for choicesOf(x) > 2000 {
		x = someJourney(random, targets)
	}
	return x
}

func TestP9_6LeastAgainstDefinition(t *testing.T) {
	random := rand.New(rand.NewPCG(9, 6))
	counts := map[api.Errno]int{}
	for range 10000 {
		x := triable(random, 1+random.IntN(5))
		c, least, e := point.Choose(x.m, x.l, x.begin())
		if e != api.OK {
			t.Fatal(x, e)
		}
		p := c.Potentials
		for range random.IntN(4) {
			n := random.IntN(len(p))
			p[n][random.IntN(len(p[n]))] += []int{1, -1, 0, 5, -random.IntN(1000000), random.IntN(1000000)}[random.IntN(6)]
		}
		bound, e := point.CheckLeast(x.m, x.l, x.begin(), p)
		counts[e]++
		if !proves(x, p) {
			if bound != 0 || e != api.ErrProof {
				t.Fatal(x, p, bound, e)
			}
			continue
		}
		if bound != slices.Min(p[len(p)-1]) || e != api.OK || bound > least {
			t.Fatal(x, p, bound, e)
		}
	}
	if counts[api.OK] < 3000 || counts[api.ErrProof] < 2000 {
		t.Error("too few of a kind", counts)
	}
}

func TestP9_6ChooseFaults(t *testing.T) {
	checkFaults(t, validJourney, chooseError, tourFaults())
}

// checkChosen checks that what Choose returns is accepted, and returns the cost.
func checkChosen(t *testing.T, x journey) int {
	t.Helper()
	c, least, e := point.Choose(x.m, x.l, x.begin())
	cost, e2 := point.CheckChoice(x.m, x.l, x.begin(), c.Turns)
	bound, e3 := point.CheckLeast(x.m, x.l, x.begin(), c.Potentials)
	if agree(t, e, e2, e3) != api.OK || cost != least || bound != least {
		t.Fatal(x, c, least, cost, bound)
	}
	return least
}

func TestP9_6Choose(t *testing.T) {
	if cost := checkChosen(t, chapterJourney()); cost != 10001892000 {
		t.Error(cost)
	}
	for _, x := range []struct {
		least, most, begin int
		azimuths           []int
		want               int
	}{
		{-700000, 1300000, 0, []int{600000, 1200000}, 1200000}, {-700000, 1300000, 0, []int{1200000, 500000, 600000}, 96000 + 596000 + 100000}, {-700000, 1300000, 1300000, []int{600000}, 10000700000}, {-700000, 1300000, -700000, []int{600000}, 4000},
		{-1296000, 1296000, 0, []int{648000}, 648000}, {-1296000, 1296000, 1, []int{648000}, 647999}, {-1296000, 1296000, -1, []int{648000}, 647999}, {-1296000, 1296000, 5, []int{0}, 5}, {0, 1296000, 1295990, []int{0}, 10}, {0, 1295999, 1295990, []int{0}, 10001295990},
		{-648000, 648000, 648000, []int{0, 648001}, 648000 + 647999}, {-2592000, 2592000, 0, []int{400000, 800000, 1200000, 304000, 704000, 1104000}, 2400000}, {-2592000, 2300000, 0, []int{400000, 800000, 1200000, 304000, 704000, 1104000}, 2000000 + 10000896000},
	} {
		y := journey{m: flatMount(x.least, x.most, 1), l: tourTargets(x.azimuths...), at: [3]int{0, x.begin, 0}}
		if cost := checkChosen(t, y); cost != x.want {
			t.Error(x, cost)
		}
		if want := leastCost(y); want != x.want {
			t.Error("by trial", x, want)
		}
	}
	// the greatest cost that there is
	var azimuths []int
	for n := range 20 {
		azimuths = append(azimuths, n%2*1200000)
	}
	x := journey{m: flatMount(0, 1200000, 1), l: tourTargets(azimuths...), at: [3]int{0, 1200000, 0}}
	if cost := checkChosen(t, x); cost != 20*10001200000 {
		t.Error(cost)
	}
}

func TestP9_11ChooseByTrial(t *testing.T) {
	random := rand.New(rand.NewPCG(11, 6))
	unwound, several := 0, 0
	for range 6000 {
		x := triable(random, random.IntN(7))
		cost := checkChosen(t, x)
		if want := leastCost(x); cost != want {
			t.Fatal(x, cost, want)
		}
		if cost >= 10000000000 {
			unwound++
		}
		if choicesOf(x) > 20 {
			several++
		}
	}
	if unwound < 500 || several < 500 {
		t.Error("too few of a kind", unwound, several)
	}
}

// TestP9_11ChooseLong checks long tours by wide cables: any choice costs at least as much.
func TestP9_11ChooseLong(t *testing.T) {
	random := rand.New(rand.NewPCG(20, 6))
	for range 1000 {
		x := someJourney(random, 20)
		if random.IntN(3) == 0 {
			x.m.Least, x.m.Most = -25920000, 25920000
		}
		least := checkChosen(t, x)
		for range 20 {
			cost, e := point.CheckChoice(x.m, x.l, x.begin(), someChoice(random, x))
			if e != api.OK || cost < least {
				t.Fatal(x, cost, least, e)
			}
		}
	}
}

func TestP9_11WiderCable(t *testing.T) {
	random := rand.New(rand.NewPCG(12, 6))
	less := 0
	for range 4000 {
		x := someJourney(random, random.IntN(21))
		wide := x
		wide.m.Least = max(x.m.Least-random.IntN(2000000), -25920000)
		wide.m.Most = min(x.m.Most+random.IntN(2000000), 25920000)
		_, cost, e := point.Choose(x.m, x.l, x.begin())
		_, other, e2 := point.Choose(wide.m, wide.l, wide.begin())
		if other > cost || agree(t, e, e2) != api.OK {
			t.Fatal(x, wide, cost, other)
		}
		if other < cost {
			less++
		}
	}
	if less < 300 {
		t.Error("too few", less)
	}
}

func TestP9_6OrderFaults(t *testing.T) {
	checkFaults(t, validJourney, orderError, tourFaults())
	for targets := range 21 {
		x := journey{m: validJourney().m, l: tourTargets(make([]int, targets)...)}
		want := api.OK
		if targets > 6 {
			want = api.ErrLarge
		}
		if e := orderError(t, x); e != want {
			t.Error(targets, e)
		}
		if targets > 6 { // the errors of the tour come first
			x.l[targets-1].Name = "t0"
			if e := orderError(t, x); e != api.ErrExists {
				t.Error(targets, e)
			}
		}
	}
}

func TestP9_6BestOrder(t *testing.T) {
	for _, x := range []struct {
		least, most, begin int
		azimuths           []int
		want               []int
		cost               int
	}{
		{-700000, 1300000, 0, []int{600000, 1200000, 500000}, []int{1, 2, 0}, 792000},
		{-700000, 1300000, 0, []int{600000}, []int{0}, 600000},
		{-700000, 1300000, 0, []int{9, 9, 9, 9, 9, 9}, []int{0, 1, 2, 3, 4, 5}, 9},
		{0, 1000, 0, []int{50, 40, 30, 20, 10, 5}, []int{5, 4, 3, 2, 1, 0}, 50},
		{0, 1000, 500, []int{400, 600}, []int{0, 1}, 300},
		{0, 1000, 500, []int{600, 400}, []int{0, 1}, 300},
		{0, 1000, 500, []int{601, 400, 601}, []int{1, 0, 2}, 301},
		{0, 1000, 500, []int{600, 400, 600, 400}, []int{0, 2, 1, 3}, 300},
		{0, 1000000, 0, []int{1000000, 0, 500000}, []int{1, 2, 0}, 1000000},
		{0, 1000000, 1000000, []int{0, 1000000}, []int{1, 0}, 10001000000},
		{-1000, 1000, 0, []int{1295000, 1000}, []int{0, 1}, 3000},
		{-1000, 1000, 1, []int{1295000, 1000}, []int{1, 0}, 2999},
		{-1000, 1000, 0, nil, nil, 0},
	} {
		m := flatMount(x.least, x.most, 1)
		if order, cost, e := point.BestOrder(m, tourTargets(x.azimuths...), [2]int{0, x.begin}); !slices.Equal(order, x.want) || cost != x.cost || e != api.OK {
			t.Error(x, order, cost, e)
		}
	}
}

// ordersOf is all orders of targets that begin with some, lexicographically.
func ordersOf(begin []int, targets int) [][]int {
	if len(begin) == targets {
		return [][]int{slices.Clone(begin)}
	}
	var all [][]int
	for n := range targets {
		if !slices.Contains(begin, n) {
			all = append(all, ordersOf(append(slices.Clone(begin), n), targets)...)
		}
	}
	return all
}

func inOrder(l []api.SkyTarget, order []int) []api.SkyTarget {
	var targets []api.SkyTarget
	for _, n := range order {
		targets = append(targets, l[n])
	}
	return targets
}

func TestP9_11BestOrderByTrial(t *testing.T) {
	random := rand.New(rand.NewPCG(13, 6))
	ties, better := 0, 0
	for round := range 1200 {
		x := someJourney(random, round%6)
		if round%100 == 0 {
			x = someJourney(random, 6)
		}
		least, best, sameCost := math.MaxInt, []int(nil), 0
		for _, order := range ordersOf(nil, len(x.l)) {
			_, cost, e := point.Choose(x.m, inOrder(x.l, order), x.begin())
			if e != api.OK {
				t.Fatal(x, order, e)
			}
			if cost < least {
				least, best, sameCost = cost, order, 0
			} else if cost == least {
				sameCost++
			}
		}
		order, cost, e := point.BestOrder(x.m, x.l, x.begin())
		if !slices.Equal(order, best) || cost != least || e != api.OK {
			t.Fatal(x, order, cost, e, best, least)
		}
		_, given, e := point.Choose(x.m, x.l, x.begin())
		if cost > given || e != api.OK {
			t.Fatal(x, cost, given, e)
		}
		if sameCost > 0 {
			ties++
		}
		if cost < given {
			better++
		}
	}
	if ties < 200 || better < 500 {
		t.Error("too few of a kind", ties, better)
	}
}

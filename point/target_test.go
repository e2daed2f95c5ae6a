package point_test

import (
	"math"
	"math/rand/v2"
	"slices"
	"testing"

	"speculum/api"
	"speculum/point"
)

// sight is the arguments of all functions of a mounting and a target, of which valid ones are accepted.
type sight struct {
	m   api.SkyMount
	t   api.SkyTarget
	day int
}

func target(name string, azimuth, height, from, to, dwell int) api.SkyTarget {
	return api.SkyTarget{Name: name, Azimuth: azimuth, Height: height, From: from, To: to, Dwell: dwell}
}

// chapterSight is the mounting, the target and the day of the chapter's example.
func chapterSight() sight {
	m := api.SkyMount{Least: -1296000, Most: 1296000, Low: 36000, High: 300000, Speed: 1, Refraction: table(0, 2000, 324000, 0), Drift: table(0, 0, 1000, 1000)}
	return sight{m, target("x", 1295900, 162000, 0, 9, 1), 200}
}

func validSight() sight {
	x := chapterSight()
	x.m.Refraction = table(0, 2000, 162000, 1000, 324000, 0)
	x.m.Drift = table(0, 0, 500, 500, 1000, 1000)
	return x
}

// mountFaults are the faults of a mounting whose tables have three rows.
func mountFaults[T any](field func(x *T) *api.SkyMount) []fault[T] {
	var faults []fault[T]
	for _, x := range []struct {
		field       func(m *api.SkyMount) *int
		least, most int
	}{
		{func(m *api.SkyMount) *int { return &m.Least }, -25920000, 25920000},
		{func(m *api.SkyMount) *int { return &m.Most }, -25920000, 25920000},
		{func(m *api.SkyMount) *int { return &m.Low }, 0, 324000},
		{func(m *api.SkyMount) *int { return &m.High }, 0, 324000},
		{func(m *api.SkyMount) *int { return &m.Speed }, 1, 1000000},
	} {
		faults = append(faults, numberFaults(func(m *T) *int { return x.field(field(m)) }, x.least, x.most, api.ErrRange)...)
	}
	for _, spoil := range []func(m *api.SkyMount){
		func(m *api.SkyMount) { m.Least = m.Most + 1 },
		func(m *api.SkyMount) { m.Least, m.Most = 25920000, -25920000 },
		func(m *api.SkyMount) { m.Low = m.High + 1 },
		func(m *api.SkyMount) { m.Low, m.High = 324000, 0 },
	} {
		faults = append(faults, fault[T]{func(x *T) { spoil(field(x)) }, api.ErrOrder})
	}
	faults = append(faults, tableFaults(func(x *T) *[]api.SkyRow { return &field(x).Refraction })...)
	return append(faults, tableFaults(func(x *T) *[]api.SkyRow { return &field(x).Drift })...)
}

// targetFaults are the faults of a target.
func targetFaults[T any](field func(x *T) *api.SkyTarget) []fault[T] {
	faults := nameFaults(func(x *T) *string { return &field(x).Name }, "")
	for _, x := range []struct {
		field       func(t *api.SkyTarget) *int
		least, most int
	}{
		{func(t *api.SkyTarget) *int { return &t.Azimuth }, 0, 1295999},
		{func(t *api.SkyTarget) *int { return &t.Height }, 0, 324000},
		{func(t *api.SkyTarget) *int { return &t.From }, 0, 10000000},
		{func(t *api.SkyTarget) *int { return &t.To }, 0, 10000000},
		{func(t *api.SkyTarget) *int { return &t.Dwell }, 1, 10000},
	} {
		faults = append(faults, numberFaults(func(y *T) *int { return x.field(field(y)) }, x.least, x.most, api.ErrRange)...)
	}
	return append(faults,
		fault[T]{func(x *T) { field(x).To = field(x).From }, api.ErrOrder},
		fault[T]{func(x *T) { field(x).From, field(x).To = 10000000, 0 }, api.ErrOrder},
		fault[T]{func(x *T) { field(x).From, field(x).To = 0, 0 }, api.ErrOrder},
		fault[T]{func(x *T) { field(x).From, field(x).To = 10000000, 10000000 }, api.ErrOrder},
	)
}

func mountError(_ *testing.T, x sight) api.Errno {
	return point.CheckMount(x.m)
}

func targetError(_ *testing.T, x sight) api.Errno {
	return point.CheckTarget(x.t)
}

func turnsError(t *testing.T, x sight) api.Errno {
	t.Helper()
	turns, e := point.Turns(x.m, x.t, x.day)
	none(t, e, turns == nil)
	return e
}

// sightError is the error of all functions of a mounting and a target.
func sightError(t *testing.T, x sight) api.Errno {
	t.Helper()
	apparent, e := point.Apparent(x.m, x.t, x.day)
	none(t, e, apparent == [2]int{})
	return agree(t, e, turnsError(t, x))
}

func mountOf(x *sight) *api.SkyMount { return &x.m }

func targetOf(x *sight) *api.SkyTarget { return &x.t }

func TestP9_4MountFaults(t *testing.T) {
	checkFaults(t, validSight, mountError, mountFaults(mountOf))
	checkLimits(t, validSight, mountError, func(x *sight) *int { return &x.m.Least }, -25920000, 1296000)
	checkLimits(t, validSight, mountError, func(x *sight) *int { return &x.m.Most }, -1296000, 25920000)
	checkLimits(t, validSight, mountError, func(x *sight) *int { return &x.m.Low }, 0, 300000)
	checkLimits(t, validSight, mountError, func(x *sight) *int { return &x.m.High }, 36000, 324000)
	checkLimits(t, validSight, mountError, func(x *sight) *int { return &x.m.Speed }, 1, 1000000)
	for _, m := range []api.SkyMount{
		{Speed: 1, Refraction: table(0, 0), Drift: table(0, 0)},
		{Least: 25920000, Most: 25920000, Low: 324000, High: 324000, Speed: 1000000, Refraction: table(-1000000, 1000000), Drift: table(1000000, -1000000)},
		{Least: -25920000, Most: -25920000, High: 324000, Speed: 9, Refraction: table(0, 0), Drift: table(0, 0)},
	} {
		if e := point.CheckMount(m); e != api.OK {
			t.Error(m, e)
		}
	}
}

func TestP9_4TargetFaults(t *testing.T) {
	checkFaults(t, validSight, targetError, targetFaults(targetOf))
	checkLimits(t, validSight, targetError, func(x *sight) *int { return &x.t.Azimuth }, 0, 1295999)
	checkLimits(t, validSight, targetError, func(x *sight) *int { return &x.t.Height }, 0, 324000)
	checkLimits(t, validSight, targetError, func(x *sight) *int { return &x.t.From }, 0, 8)
	checkLimits(t, validSight, targetError, func(x *sight) *int { return &x.t.To }, 1, 10000000)
	checkLimits(t, validSight, targetError, func(x *sight) *int { return &x.t.Dwell }, 1, 10000)
	for _, name := range names {
		if e := point.CheckTarget(target(name, 0, 0, 0, 1, 1)); e != api.OK {
			t.Error(name, e)
		}
	}
	if e := point.CheckTarget(target("a", 0, 0, 9999999, 10000000, 10000)); e != api.OK { // however long it takes
		t.Error(e)
	}
}

func TestP9_4SightFaults(t *testing.T) {
	faults := append(mountFaults(mountOf), targetFaults(targetOf)...)
	faults = append(faults, numberFaults(func(x *sight) *int { return &x.day }, 0, 100000, api.ErrRange)...)
	checkFaults(t, validSight, sightError, faults)
	checkLimits(t, validSight, sightError, func(x *sight) *int { return &x.day }, 0, 100000)
	var breaks []fault[sight]
	for _, h := range [][3]int{{0, 162999, 162000}, {163001, 323999, 162000}, {0, 0, 0}, {2001, 300000, 0}, {0, 1999, 0}, {36000, 300000, 299900}, {36000, 300000, 0}} {
		breaks = append(breaks, fault[sight]{func(x *sight) { x.m.Low, x.m.High, x.t.Height = h[0], h[1], h[2] }, api.ErrBreak})
	}
	checkFaults(t, validSight, turnsError, append(faults, breaks...))
	checkLimits(t, validSight, turnsError, func(x *sight) *int { return &x.m.High }, 163000, 163000)
	checkLimits(t, validSight, turnsError, func(x *sight) *int { return &x.m.Low }, 163000, 163000)
	narrow := func() sight {
		x := validSight()
		x.m.Least, x.m.Most = 100, 100
		return x
	}
	for _, spoil := range []func(x *sight){
		func(x *sight) { x.m.Least, x.m.Most = 101, 1296099 },
		func(x *sight) { x.m.Least, x.m.Most = 101, 101 },
		func(x *sight) { x.m.Least, x.m.Most = -1295899, 99 },
		func(x *sight) { x.t.Azimuth = 1295899 },
		func(x *sight) { x.t.Azimuth = 5 },
		func(x *sight) { x.day = 199 },
	} {
		checkFaults(t, narrow, turnsError, append(slices.Clone(breaks), fault[sight]{spoil, api.ErrNone}))
	}
}

func TestP9_4Apparent(t *testing.T) {
	x := chapterSight()
	flat := func(refraction, drift int) api.SkyMount {
		return api.SkyMount{Speed: 1, Refraction: table(0, refraction), Drift: table(0, drift)}
	}
	steep := api.SkyMount{Speed: 1, Refraction: table(100, 50, 150, 0), Drift: table(0, 7, 10, -3)}
	for _, c := range []struct {
		m               api.SkyMount
		azimuth, height int
		day             int
		want            [2]int
	}{
		{x.m, 1295900, 162000, 200, [2]int{100, 163000}},
		{x.m, 1295900, 162000, 99, [2]int{1295999, 163000}}, {x.m, 1295900, 162000, 100, [2]int{0, 163000}}, {x.m, 1295900, 162000, 100000, [2]int{900, 163000}}, {x.m, 0, 324000, 0, [2]int{0, 324000}}, {x.m, 5, 0, 0, [2]int{5, 2000}},
		{flat(0, -1), 0, 0, 0, [2]int{1295999, 0}}, {flat(0, -1000000), 5, 0, 7, [2]int{296005, 0}}, {flat(0, 1000000), 1295999, 0, 0, [2]int{999999, 0}}, {flat(0, 1), 1295999, 0, 0, [2]int{0, 0}},
		{flat(-1000000, 0), 0, 0, 0, [2]int{0, -1000000}}, {flat(1000000, 0), 0, 324000, 0, [2]int{0, 1324000}}, {flat(-1, 0), 9, 0, 0, [2]int{9, -1}},
		{steep, 3, 100, 0, [2]int{10, 150}}, {steep, 3, 110, 5, [2]int{5, 150}}, {steep, 3, 99, 9, [2]int{1, 149}}, {steep, 3, 149, 10, [2]int{0, 150}}, {steep, 2, 150, 11, [2]int{1295999, 150}}, {steep, 3, 151, 100000, [2]int{0, 151}},
	} {
		if apparent, e := point.Apparent(c.m, target("a", c.azimuth, c.height, 0, 1, 1), c.day); apparent != c.want || e != api.OK {
			t.Error(c, apparent, e)
		}
	}
}

func TestP9_4Turns(t *testing.T) {
	x := chapterSight()
	var all []int
	for k := -20; k <= 20; k++ {
		all = append(all, k)
	}
	for _, c := range []struct {
		least, most int
		want        []int
	}{
		{-1296000, 1296000, []int{-1, 0}}, {-1296000, 1296100, []int{-1, 0, 1}}, {-1296000, 1296099, []int{-1, 0}}, {-1295900, 100, []int{-1, 0}}, {-1295899, 100, []int{0}}, {-1295900, 99, []int{-1}}, {100, 100, []int{0}}, {-1295900, -1295900, []int{-1}},
		{2592100, 2592100, []int{2}}, {-25920000, 25920000, all[:40]}, {-25919900, 25920000, all[:40]}, {-25919899, 25920000, all[1:40]}, {-25920000, -25919900, []int{-20}}, {24624100, 25920000, []int{19}}, {0, 25920000, all[20:40]}, {-25920000, 0, all[:20]},
	} {
		x.m.Least, x.m.Most = c.least, c.most
		if turns, e := point.Turns(x.m, x.t, x.day); !slices.Equal(turns, c.want) || e != api.OK {
			t.Error(c, turns, e)
		}
	}
	m := api.SkyMount{Least: -25920000, Most: 25920000, High: 324000, Speed: 1, Refraction: table(0, 0), Drift: table(0, 0)}
	if turns, e := point.Turns(m, target("a", 0, 0, 0, 1, 1), 0); !slices.Equal(turns, all) || e != api.OK {
		t.Error(turns, e)
	}
}

// someMount is a mounting with a cable of all kinds of lengths, which sees most heights.
func someMount(random *rand.Rand) api.SkyMount {
	width := []int{0, 1000, 1296000, 3000000, 8000000, 51840000}[random.IntN(6)]
	least := random.IntN(51840000-width+1) - 25920000
	if random.IntN(2) == 0 { // around 0
		least = -random.IntN(width + 1)
	}
	least = max(least, -25920000)
	m := api.SkyMount{Least: least, Most: min(least+random.IntN(width+1), 25920000), High: 324000, Speed: 1 + random.IntN([]int{100, 1000000}[random.IntN(2)])}
	if random.IntN(3) == 0 {
		m.Low, m.High = random.IntN(50000), 324000-random.IntN(50000)
	}
	m.Refraction = someTable(random, 1+random.IntN(6), 120000, []int{0, 2000, 1000000}[random.IntN(3)])
	m.Drift = someTable(random, 1+random.IntN(6), 20000, []int{0, 2000, 1000000}[random.IntN(3)])
	return m
}

func someTarget(random *rand.Rand, name string) api.SkyTarget {
	from := random.IntN(1000)
	return target(name, random.IntN(1296000), random.IntN(324001), from, from+1+random.IntN(9000), 1+random.IntN(20))
}

// apparentBy is the apparent azimuth and height of a target.
func apparentBy(m api.SkyMount, t api.SkyTarget, day int) [2]int {
	azimuth := t.Azimuth + valueBy(m.Drift, day)
	for azimuth < 0 {
		azimuth += 1296000
	}
	for azimuth > 1295999 {
		azimuth -= 1296000
	}
	return [2]int{azimuth, t.Height + valueBy(m.Refraction, t.Height)}
}

// turnsBy is the turns of a target, or its error.
func turnsBy(m api.SkyMount, t api.SkyTarget, day int) ([]int, api.Errno) {
	p := apparentBy(m, t, day)
	if p[1] < m.Low || m.High < p[1] {
		return nil, api.ErrBreak
	}
	var turns []int
	for k := -30; k <= 30; k++ {
		if position := p[0] + k*1296000; m.Least <= position && position <= m.Most {
			turns = append(turns, k)
		}
	}
	if turns == nil {
		return nil, api.ErrNone
	}
	return turns, api.OK
}

func TestP9_4AgainstTrial(t *testing.T) {
	random := rand.New(rand.NewPCG(9, 4))
	counts := map[api.Errno]int{}
	for range 20000 {
		x := sight{someMount(random), someTarget(random, "a"), random.IntN(100001)}
		if random.IntN(3) == 0 { // a position at an end of the cable
			end := []int{x.m.Least, x.m.Most}[random.IntN(2)] + random.IntN(3) - 1
			x.t.Azimuth = apparentBy(x.m, target("a", 0, 0, 0, 1, 1), x.day)[0]
			x.t.Azimuth = ((end-x.t.Azimuth)%1296000 + 1296000) % 1296000
		}
		apparent, e := point.Apparent(x.m, x.t, x.day)
		if apparent != apparentBy(x.m, x.t, x.day) || e != api.OK {
			t.Fatal(x, apparent, e)
		}
		turns, e := point.Turns(x.m, x.t, x.day)
		want, e2 := turnsBy(x.m, x.t, x.day)
		if !slices.Equal(turns, want) || e != e2 {
			t.Fatal(x, turns, e, want, e2)
		}
		counts[e]++
	}
	if counts[api.OK] < 3000 || counts[api.ErrBreak] < 1000 || counts[api.ErrNone] < 1000 {
		t.Error("too few of a kind", counts)
	}
}

func TestP9_10Positions(t *testing.T) {
	random := rand.New(rand.NewPCG(10, 4))
	more := 0
	for range 10000 {
		x := sight{someMount(random), someTarget(random, "a"), random.IntN(100001)}
		apparent, e := point.Apparent(x.m, x.t, x.day)
		if e != api.OK || apparent[0] < 0 || apparent[0] > api.Turn-1 {
			t.Fatal(x, apparent, e)
		}
		turns, _ := point.Turns(x.m, x.t, x.day)
		for i, turn := range turns {
			position := apparent[0] + turn*api.Turn
			if position < x.m.Least || position > x.m.Most || i > 0 && turn <= turns[i-1] {
				t.Fatal(x, turns)
			}
		}
		wide := x
		wide.m.Least = max(wide.m.Least-random.IntN(3000000), -25920000)
		wide.m.Most = min(wide.m.Most+random.IntN(3000000), 25920000)
		others, _ := point.Turns(wide.m, x.t, x.day)
		for _, turn := range turns {
			if !slices.Contains(others, turn) {
				t.Fatal(x, wide, turns, others)
			}
		}
		if len(others) > len(turns) {
			more++
		}
	}
	if more < 2000 {
		t.Error("too few", more)
	}
}

// TestP9_10Drift checks that a drift of whole turns changes nothing.
func TestP9_10Drift(t *testing.T) {
	random := rand.New(rand.NewPCG(10, 9))
	for range 5000 {
		x := sight{someMount(random), someTarget(random, "a"), random.IntN(100001)}
		for i := range x.m.Drift {
			x.m.Drift[i].Value = 296000 + random.IntN(704001)
		}
		y := x
		y.m.Drift = slices.Clone(x.m.Drift)
		for i := range y.m.Drift {
			y.m.Drift[i].Value -= api.Turn
		}
		a, e := point.Apparent(x.m, x.t, x.day)
		b, e2 := point.Apparent(y.m, y.t, y.day)
		if a != b || agree(t, e, e2) != api.OK {
			t.Fatal(x, y, a, b)
		}
		turns, e := point.Turns(x.m, x.t, x.day)
		others, e2 := point.Turns(y.m, y.t, y.day)
		if !slices.Equal(turns, others) || e != e2 {
			t.Fatal(x, y, turns, others, e, e2)
		}
	}
}

func TestP9_5Way(t *testing.T) {
	for _, x := range []struct {
		from, to, way int
		unwinds       bool
	}{
		{0, 648000, 648000, false}, {0, 648001, 648001, true}, {0, -648000, 648000, false}, {0, -648001, 648001, true}, {-5, 5, 10, false}, {5, -5, 10, false}, {7, 7, 0, false},
		{-25920000, 25920000, 51840000, true}, {25920000, -25920000, 51840000, true}, {25920000, 25920000, 0, false}, {-324000, 324000, 648000, false}, {324001, -324000, 648001, true}, {25920000, 25272000, 648000, false},
	} {
		if way, unwinds, e := point.Way(x.from, x.to); way != x.way || unwinds != x.unwinds || e != api.OK {
			t.Error(x, way, unwinds, e)
		}
	}
	for _, n := range []int{-25920001, 25920001, math.MinInt, math.MaxInt} {
		for _, other := range []int{0, -25920000, 25920000, n, -n} {
			for _, x := range [][2]int{{n, other}, {other, n}} {
				if way, unwinds, e := point.Way(x[0], x[1]); way != 0 || unwinds || e != api.ErrRange {
					t.Error(x, way, unwinds, e)
				}
			}
		}
	}
}

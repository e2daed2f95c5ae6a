package support_test

import (
	"math/big"
	"math/rand/v2"
	"slices"
	"testing"

	"speculum/api"
	"speculum/support"
)

// driveFaults are the faults of steps and of steps of a turn.
func driveFaults() []fault[drive] {
	faults := numberFaults(func(x *drive) *int { return &x.steps }, 1, 1000000, api.ErrRange)
	return append(faults, numberFaults(func(x *drive) *int { return &x.perTurn }, 1, 1000000, api.ErrRange)...)
}

// large is the fault that the ratio of a beginning is not small.
func large() fault[drive] {
	return fault[drive]{func(x *drive) { x.l = append(fast(4), slow(4)...) }, api.ErrLarge}
}

// largeRate is the fault that the rate is not small, though all ratios are.
func largeRate() []fault[drive] {
	return []fault[drive]{
		{func(x *drive) { x.l = append(fast(3), pair(1, 1)) }, api.ErrLarge},
		{func(x *drive) { x.l, x.steps, x.perTurn = []api.GearPair{pair(1, 1), pair(1, 1)}, 1000000, 999 }, api.ErrLarge},
		{func(x *drive) { x.l, x.steps, x.perTurn = slow(3), 1, 999983 }, api.ErrLarge},
	}
}

// rateAlone is the error of Rate alone.
func rateAlone(t *testing.T, x drive) api.Errno {
	t.Helper()
	f, e := support.Rate(x.l, x.steps, x.perTurn)
	none(t, e, f == api.Frac{})
	return e
}

func TestP7_8RateFaults(t *testing.T) {
	checkFaults(t, validDrive, rateError, slices.Concat(trainFaults(), []fault[drive]{large()}, driveFaults(), largeRate()))
	slowly := func() drive { return drive{l: []api.GearPair{pair(1, 500)}, steps: 500, perTurn: 500} }
	checkLimits(t, slowly, rateAlone, func(x *drive) *int { return &x.steps }, 1, 1000000)
	checkLimits(t, slowly, rateAlone, func(x *drive) *int { return &x.perTurn }, 1, 1000000)
}

func TestP7_8Rates(t *testing.T) {
	for _, c := range []struct {
		x    drive
		want api.Frac
	}{
		{drive{l: chapterTrain(), steps: 5, perTurn: 5}, frac(216000, 1)},
		{drive{steps: 1, perTurn: 1}, frac(1296000, 1)},
		{drive{steps: 1, perTurn: 7}, frac(1296000, 7)},
		{drive{steps: 250, perTurn: 21541}, frac(324000000, 21541)}, // the sky
		{drive{steps: 1000000, perTurn: 1296}, frac(1000000000, 1)},
		{drive{steps: 1000000, perTurn: 1000000}, frac(1296000, 1)},
		{drive{l: []api.GearPair{pair(1, 500), pair(1, 500), pair(1, 4)}, steps: 1, perTurn: 1000000}, frac(81, 62500000)},
		{drive{l: []api.GearPair{pair(1, 500), pair(1, 500), pair(1, 500), pair(1, 8)}, steps: 1, perTurn: 1000}, frac(81, 62500000)},
		{drive{l: []api.GearPair{pair(500, 1), pair(500, 1), pair(500, 1), pair(6, 1)}, steps: 1, perTurn: 1000000}, frac(972000000, 1)},
		{drive{l: []api.GearPair{pair(1, 500), pair(1, 500), pair(1, 500), pair(1, 8)}, steps: 1000000, perTurn: 1}, frac(1296, 1)},
	} {
		if f, e := support.Rate(c.x.l, c.x.steps, c.x.perTurn); f != c.want || e != api.OK {
			t.Error(c, f, e)
		}
	}
}

// someDrive is a drive of any size, or one that is nearly as fast as the sky.
func someDrive(random *rand.Rand) drive {
	x := drive{l: someTrain(random), steps: 1 + random.IntN(1000000), perTurn: 1 + random.IntN(1000000), seconds: random.IntN(1000001)}
	switch random.IntN(3) {
	case 0: // 200 times as fast, and down by a worm
		x.l, x.steps, x.perTurn = []api.GearPair{pair(1+random.IntN(9), 100*(1+random.IntN(5)))}, 1+random.IntN(30), 1+random.IntN(12)
	case 1:
		x.l, x.steps, x.perTurn = []api.GearPair{pair(1, 1+random.IntN(500))}, 1+random.IntN(200), 1+random.IntN(200)
	}
	return x
}

// rateOf is the rate of a drive.
func rateOf(x drive) *big.Rat {
	ratios, _ := ratiosOf(x.l)
	rate := big.NewRat(1296000*int64(x.steps), int64(x.perTurn))
	return rate.Mul(rate, ratios[len(x.l)])
}

func TestP7_8SomeDrives(t *testing.T) {
	random := rand.New(rand.NewPCG(7, 22))
	counts := map[string]int{}
	for range 30000 {
		x := someDrive(random)
		_, areSmall := ratiosOf(x.l)
		rate := rateOf(x)
		ahead := new(big.Rat).Sub(rate, big.NewRat(1296000*1000, 86164))
		isRate := areSmall && isSmall(rate)
		isAhead := isRate && isSmall(ahead)
		f, e := support.Rate(x.l, x.steps, x.perTurn)
		if isRate && (e != api.OK || !isRat(f, rate)) || !isRate && (e != api.ErrLarge || f != api.Frac{}) {
			t.Fatal(x, f, rate, e)
		}
		r, e := support.Drift(x.l, [2]int{x.steps, x.perTurn}, x.seconds)
		want := around(new(big.Rat).Mul(ahead, big.NewRat(int64(x.seconds), 1000)))
		if isAhead && (e != api.OK || r != want) || !isAhead && (e != api.ErrLarge || r != api.Range{}) {
			t.Fatal(x, r, want, e)
		}
		switch {
		case !areSmall:
			counts["large ratio"]++
		case !isRate:
			counts["large rate"]++
		case !isAhead:
			counts["large difference"]++
		case ahead.Sign() < 0:
			counts["behind"]++
		default:
			counts["ahead"]++
		}
	}
	for _, kind := range []string{"large ratio", "large rate", "large difference", "behind", "ahead"} {
		if counts[kind] < 200 {
			t.Error("too few of a kind", kind, counts)
		}
	}
}

func TestP7_8DriftFaults(t *testing.T) {
	faults := slices.Concat(trainFaults(), []fault[drive]{large()}, driveFaults(), largeRate())
	faults = append(faults, numberFaults(func(x *drive) *int { return &x.seconds }, 0, 1000000, api.ErrRange)...)
	faults = append(faults,
		fault[drive]{func(x *drive) { x.l, x.steps, x.perTurn = []api.GearPair{pair(1, 1), pair(1, 1)}, 1, 1 }, api.ErrLarge},
		fault[drive]{func(x *drive) {
			x.l, x.steps, x.perTurn, x.seconds = []api.GearPair{pair(1, 1), pair(1, 1)}, 1, 46457, 0
		}, api.ErrLarge},
	)
	checkFaults(t, validDrive, driftError, faults)
	checkLimits(t, validDrive, driftError, func(x *drive) *int { return &x.seconds }, 0, 1000000)
}

func TestP7_8Drifts(t *testing.T) {
	solar := drive{steps: 5, perTurn: 432} // a turn in 86400 seconds
	sky := drive{steps: 250, perTurn: 21541}
	fast := drive{l: []api.GearPair{pair(1, 50)}, steps: 2, perTurn: 1} // 51840
	for _, c := range []struct {
		x       drive
		seconds int
		want    api.Range
	}{
		{solar, 0, span(0, 0)},
		{solar, 1, span(-1, 0)},
		{solar, 24, span(-1, 0)},
		{solar, 25, span(-2, -1)},
		{solar, 1000, span(-42, -41)},
		{solar, 86164, span(-3540, -3540)},
		{solar, 1000000, span(-41085, -41084)},
		{sky, 0, span(0, 0)},
		{sky, 1, span(0, 0)},
		{sky, 1000000, span(0, 0)},
		{fast, 0, span(0, 0)},
		{fast, 1, span(36, 37)},
		{fast, 1000000, span(36798915, 36798916)},
	} {
		if r, e := support.Drift(c.x.l, [2]int{c.x.steps, c.x.perTurn}, c.seconds); r != c.want || e != api.OK {
			t.Error(c, r, e)
		}
	}
}

// largeEnd is a train with an end whose ratio is not small; those of its beginnings are. Backward it is the other way
// round.
func largeEnd() []api.GearPair {
	return []api.GearPair{pair(479, 1), pair(487, 1), pair(1, 479), pair(1, 487), pair(1, 499), pair(1, 491)}
}

func backward(l []api.GearPair) []api.GearPair {
	slices.Reverse(l)
	return l
}

func TestP7_8PeriodicFaults(t *testing.T) {
	faults := trainFaults()
	for _, spoil := range []func(x *drive){
		func(x *drive) { x.errors = nil },
		func(x *drive) { x.errors = x.errors[:1] },
		func(x *drive) { x.errors = make([]int, 3) },
		func(x *drive) { x.errors = slices.Repeat([]int{-1}, 7) },
		func(x *drive) { x.errors = make([]int, 1000) },
	} {
		faults = append(faults, fault[drive]{spoil, api.ErrShape})
	}
	for i := range 2 {
		faults = append(faults, numberFaults(func(x *drive) *int { return &x.errors[i] }, 0, 1000000, api.ErrRange)...)
	}
	for _, l := range [][]api.GearPair{
		fast(4), // the whole train alone
		slow(4),
		append(fast(1), fast(4)...),
		largeEnd(),
		append(fast(4), slow(4)...),
		append(slow(4), fast(4)...),
	} {
		faults = append(faults, fault[drive]{func(x *drive) { x.l, x.errors = slices.Clone(l), make([]int, len(l)) }, api.ErrLarge})
	}
	checkFaults(t, validDrive, periodicError, faults)
	for i := range 2 {
		checkLimits(t, validDrive, periodicError, func(x *drive) *int { return &x.errors[i] }, 0, 1000000)
	}
	if f, e := support.Ratio(largeEnd()); f != frac(1, 499*491) || e != api.OK {
		t.Error(f, e)
	}
	if f, e := support.Ratio(backward(largeEnd())); f != (api.Frac{}) || e != api.ErrLarge {
		t.Error(f, e)
	}
}

func TestP7_8Periodic(t *testing.T) {
	for _, c := range []struct {
		l      []api.GearPair
		errors []int
		want   int
	}{
		{nil, nil, 0},
		{chapterTrain(), []int{100, 6}, 73},
		{chapterTrain(), []int{0, 0}, 0},
		{chapterTrain(), []int{1, 0}, 1},
		{chapterTrain(), []int{3, 0}, 2},
		{chapterTrain(), []int{1, 1}, 2},
		{chapterTrain()[:1], []int{100}, 100}, // its own ratio is not taken
		{[]api.GearPair{pair(1, 3), pair(1, 3), pair(1, 3)}, []int{1, 1, 1}, 3},
		{[]api.GearPair{pair(1, 3), pair(1, 3), pair(1, 3)}, []int{10, 10, 10}, 16},
		{[]api.GearPair{pair(1, 8), pair(500, 1), pair(500, 1), pair(500, 1), pair(8, 1)}, []int{1000000, 1000000, 1000000, 1000000, 1000000}, 1000000000000000 + 2000000000000 + 4000000000 + 8000000 + 1000000},
		{backward(largeEnd()), []int{491 * 499, 499, 1, 1, 1, 1}, 491 + 499 + 487 + 487*479 + 479 + 1},
	} {
		if n, e := support.Periodic(c.l, c.errors); n != c.want || e != api.OK {
			t.Error(c, n, e)
		}
	}
}

func TestP7_8SomePeriodic(t *testing.T) {
	random := rand.New(rand.NewPCG(7, 23))
	counts := map[api.Errno]int{}
	for range 10000 {
		l := someTrain(random)
		var errors []int
		for range l {
			errors = append(errors, random.IntN([]int{4, 1000001}[random.IntN(2)]))
		}
		want, e := 0, api.OK
		end := big.NewRat(1, 1)
		for i := len(l) - 1; i >= 0; i-- {
			want += around(new(big.Rat).Mul(end, big.NewRat(int64(errors[i]), 1))).Hi
			end.Mul(end, big.NewRat(int64(l[i].Driver), int64(l[i].Driven)))
			if !isSmall(end) {
				want, e = 0, api.ErrLarge
				break
			}
		}
		if n, e2 := support.Periodic(l, errors); n != want || e != e2 {
			t.Fatal(l, errors, n, want, e, e2)
		}
		counts[e]++
	}
	if counts[api.OK] < 1000 || counts[api.ErrLarge] < 1000 {
		t.Error("too few of a kind", counts)
	}
}

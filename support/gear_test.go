package support_test

import (
	"math/big"
	"math/rand/v2"
	"slices"
	"testing"

	"speculum/api"
	"speculum/support"
)

// drive is the arguments of all functions of trains, of which valid ones are accepted.
type drive struct {
	l              []api.GearPair
	steps, perTurn int
	seconds        int
	errors         []int
}

func pair(driver, driven int) api.GearPair { return api.GearPair{Driver: driver, Driven: driven} }

// chapterTrain is the train of the chapter's examples.
func chapterTrain() []api.GearPair {
	return []api.GearPair{pair(10, 40), pair(20, 30)}
}

// validDrive turns nearly as fast as the sky, as the difference of the rates is to be small.
func validDrive() drive {
	return drive{chapterTrain(), 2, 30, 1000, []int{100, 6}}
}

func ratioError(t *testing.T, x drive) api.Errno {
	t.Helper()
	f, e := support.Ratio(x.l)
	none(t, e, f == api.Frac{})
	n, e2 := support.Returns(x.l)
	none(t, e2, n == 0)
	return agree(t, e, e2, rateError(t, x))
}

func rateError(t *testing.T, x drive) api.Errno {
	t.Helper()
	f, e := support.Rate(x.l, x.steps, x.perTurn)
	none(t, e, f == api.Frac{})
	return agree(t, e, driftError(t, x))
}

func driftError(t *testing.T, x drive) api.Errno {
	t.Helper()
	r, e := support.Drift(x.l, [2]int{x.steps, x.perTurn}, x.seconds)
	none(t, e, r == api.Range{})
	return e
}

func periodicError(t *testing.T, x drive) api.Errno {
	t.Helper()
	n, e := support.Periodic(x.l, x.errors)
	none(t, e, n == 0)
	return e
}

func trainError(t *testing.T, x drive) api.Errno {
	t.Helper()
	return agree(t, support.CheckTrain(x.l), ratioError(t, x), periodicError(t, x))
}

// shortError is the error of those that a train without drive has.
func shortError(t *testing.T, x drive) api.Errno {
	t.Helper()
	_, e := support.Ratio(x.l)
	_, e2 := support.Returns(x.l)
	return agree(t, support.CheckTrain(x.l), e, e2, periodicError(t, x))
}

// trainFaults are the faults of two pairs.
func trainFaults() []fault[drive] {
	faults := []fault[drive]{
		{func(x *drive) { x.l = slices.Repeat([]api.GearPair{pair(1, 1)}, 13) }, api.ErrLarge},
		{func(x *drive) { x.l = make([]api.GearPair, 13) }, api.ErrLarge},
	}
	for i := range 2 {
		faults = append(faults, numberFaults(func(x *drive) *int { return &x.l[i].Driver }, 1, 500, api.ErrRange)...)
		faults = append(faults, numberFaults(func(x *drive) *int { return &x.l[i].Driven }, 1, 500, api.ErrRange)...)
	}
	return faults
}

// slow is as many pairs whose ratios are the reciprocals of great primes; fast is their opposites.
func slow(n int) []api.GearPair {
	return []api.GearPair{pair(1, 499), pair(1, 491), pair(1, 487), pair(1, 479)}[:n]
}

func fast(n int) []api.GearPair {
	return []api.GearPair{pair(499, 1), pair(491, 1), pair(487, 1), pair(479, 1)}[:n]
}

func TestP7_6TrainFaults(t *testing.T) {
	checkFaults(t, validDrive, trainError, trainFaults())
	for i := range 2 {
		checkLimits(t, validDrive, shortError, func(x *drive) *int { return &x.l[i].Driver }, 1, 500)
		checkLimits(t, validDrive, shortError, func(x *drive) *int { return &x.l[i].Driven }, 1, 500)
	}
	for _, l := range [][]api.GearPair{nil, {}, slices.Repeat([]api.GearPair{pair(500, 500)}, 12)} {
		if e := trainError(t, drive{l, 1, 86, 1, make([]int, len(l))}); e != api.OK {
			t.Error(l, e)
		}
	}
}

func TestP7_6RatioFaults(t *testing.T) {
	large := []fault[drive]{
		{func(x *drive) { x.l = slow(4) }, api.ErrLarge},
		{func(x *drive) { x.l = fast(4) }, api.ErrLarge},
		{func(x *drive) { x.l = append(slow(4), fast(4)...) }, api.ErrLarge}, // the whole ratio is 1
		{func(x *drive) { x.l = append(fast(4), slow(4)...) }, api.ErrLarge},
		{func(x *drive) { x.l = append(append(slow(3), fast(3)...), slow(4)...) }, api.ErrLarge},
	}
	checkFaults(t, validDrive, ratioError, append(trainFaults(), large...))
}

func TestP7_6Ratios(t *testing.T) {
	for _, c := range []struct {
		l    []api.GearPair
		want api.Frac
	}{
		{nil, frac(1, 1)},
		{chapterTrain(), frac(1, 6)},
		{chapterTrain()[:1], frac(1, 4)},
		{slow(3), frac(1, 499*491*487)},
		{[]api.GearPair{pair(500, 1)}, frac(500, 1)},
		{[]api.GearPair{pair(500, 1), pair(500, 1), pair(500, 1), pair(8, 1)}, frac(1000000000, 1)},
		{[]api.GearPair{pair(1, 500), pair(1, 500), pair(1, 500), pair(1, 8)}, frac(1, 1000000000)},
		{append(fast(3), slow(3)...), frac(1, 1)},
		{slices.Repeat([]api.GearPair{pair(2, 1), pair(1, 2)}, 6), frac(1, 1)},
	} {
		if f, e := support.Ratio(c.l); f != c.want || e != api.OK {
			t.Error(c, f, e)
		}
	}
}

// someTrain is a train of any number of pairs, with few teeth or with many.
func someTrain(random *rand.Rand) []api.GearPair {
	most := []int{2, 6, 30, 500}[random.IntN(4)]
	var l []api.GearPair
	for range random.IntN(13) {
		l = append(l, pair(1+random.IntN(most), 1+random.IntN(most)))
	}
	return l
}

// ratiosOf is the ratios of the beginnings of a train, and whether all of them are small.
func ratiosOf(l []api.GearPair) ([]*big.Rat, bool) {
	ratios, areSmall := []*big.Rat{big.NewRat(1, 1)}, true
	for i, g := range l {
		ratio := new(big.Rat).Mul(ratios[i], big.NewRat(int64(g.Driver), int64(g.Driven)))
		ratios, areSmall = append(ratios, ratio), areSmall && isSmall(ratio)
	}
	return ratios, areSmall
}

// multiple is the least common multiple of the denominators of ratios.
func multiple(ratios []*big.Rat) *big.Int {
	n := big.NewInt(1)
	for _, r := range ratios {
		d := new(big.Int).GCD(nil, nil, n, r.Denom())
		n.Mul(n, new(big.Int).Quo(r.Denom(), d))
	}
	return n
}

func TestP7_6SomeTrains(t *testing.T) {
	random := rand.New(rand.NewPCG(7, 15))
	counts := map[[2]bool]int{}
	for range 20000 {
		l := someTrain(random)
		ratios, areSmall := ratiosOf(l)
		f, e := support.Ratio(l)
		if (e == api.OK) != areSmall || areSmall && !isRat(f, ratios[len(l)]) || !areSmall && e != api.ErrLarge {
			t.Fatal(l, f, ratios, e)
		}
		turns := multiple(ratios)
		areFew := turns.Cmp(big.NewInt(1000000000)) <= 0
		n, e := support.Returns(l)
		if areSmall && areFew && (e != api.OK || big.NewInt(int64(n)).Cmp(turns) != 0) || !(areSmall && areFew) && (e != api.ErrLarge || n != 0) {
			t.Fatal(l, n, turns, e)
		}
		counts[[2]bool{areSmall, areFew}]++
	}
	for _, kind := range [][2]bool{{true, true}, {true, false}, {false, false}, {false, true}} {
		if counts[kind] < 20 {
			t.Error("too few of a kind", kind, counts)
		}
	}
}

func TestP7_6MeetAgain(t *testing.T) {
	for g, want := range map[api.GearPair]int{
		pair(10, 40): 4, pair(20, 30): 3, pair(40, 10): 1, pair(7, 7): 1, pair(1, 500): 500, pair(500, 1): 1, pair(499, 500): 500, pair(500, 499): 499, pair(1, 1): 1,
	} {
		if n, e := support.MeetAgain(g); n != want || e != api.OK {
			t.Error(g, n, e)
		}
	}
	// Turn by turn: the teeth meet again when the driven gear has made whole turns.
	for driver := 1; driver <= 500; driver += 7 {
		for driven := 1; driven <= 500; driven++ {
			turns, at := 1, driver%driven
			for at != 0 {
				turns, at = turns+1, (at+driver)%driven
			}
			if n, e := support.MeetAgain(pair(driver, driven)); n != turns || e != api.OK {
				t.Fatal(driver, driven, n, turns, e)
			}
		}
	}
}

func TestP7_6MeetAgainFaults(t *testing.T) {
	valid := func() api.GearPair { return pair(10, 40) }
	errorOf := func(t *testing.T, g api.GearPair) api.Errno {
		t.Helper()
		n, e := support.MeetAgain(g)
		none(t, e, n == 0)
		return e
	}
	driver, driven := func(g *api.GearPair) *int { return &g.Driver }, func(g *api.GearPair) *int { return &g.Driven }
	checkFaults(t, valid, errorOf, append(numberFaults(driver, 1, 500, api.ErrRange), numberFaults(driven, 1, 500, api.ErrRange)...))
	checkLimits(t, valid, errorOf, driver, 1, 500)
	checkLimits(t, valid, errorOf, driven, 1, 500)
}

func TestP7_6Returns(t *testing.T) {
	for _, c := range []struct {
		l    []api.GearPair
		want int
		e    api.Errno
	}{
		{nil, 1, api.OK},
		{chapterTrain(), 12, api.OK},
		{chapterTrain()[1:], 3, api.OK},
		{[]api.GearPair{pair(30, 10)}, 1, api.OK},
		{[]api.GearPair{pair(1, 7), pair(7, 1)}, 7, api.OK}, // the axis between them
		{slow(3), 499 * 491 * 487, api.OK},
		{[]api.GearPair{pair(1, 500), pair(1, 500), pair(1, 500), pair(1, 8)}, 1000000000, api.OK},
		{[]api.GearPair{pair(1, 500), pair(1, 500), pair(1, 500), pair(1, 8), pair(8, 9)}, 0, api.ErrLarge},
		{[]api.GearPair{pair(1, 499), pair(499, 491), pair(491, 487)}, 499 * 491 * 487, api.OK},
		{[]api.GearPair{pair(1, 499), pair(499, 491), pair(491, 487), pair(487, 479)}, 0, api.ErrLarge}, // 1 / 479, but not all of them
		{[]api.GearPair{pair(1, 499), pair(499, 491), pair(491, 487), pair(487, 479), pair(479, 1)}, 0, api.ErrLarge},
		{[]api.GearPair{pair(1, 400), pair(1, 400), pair(1, 400), pair(1, 10), pair(400, 1), pair(400, 499)}, 0, api.ErrLarge},
	} {
		if n, e := support.Returns(c.l); n != c.want || e != c.e {
			t.Error(c, n, e)
		}
	}
}

// TestP7_11Returns checks turn by turn that all axes have made whole turns behind so many, and not before.
func TestP7_11Returns(t *testing.T) {
	random := rand.New(rand.NewPCG(7, 16))
	for range 3000 {
		var l []api.GearPair
		for range random.IntN(5) {
			l = append(l, pair(1+random.IntN(9), 1+random.IntN(9)))
		}
		ratios, _ := ratiosOf(l)
		areWhole := func(turns int) bool {
			return !slices.ContainsFunc(ratios, func(r *big.Rat) bool {
				return !new(big.Rat).Mul(r, big.NewRat(int64(turns), 1)).IsInt()
			})
		}
		turns := 1
		for !areWhole(turns) {
			turns++
		}
		if n, e := support.Returns(l); n != turns || e != api.OK {
			t.Fatal(l, n, turns, e)
		}
	}
}

// TestP7_11Ratios checks that the ratio of trains behind each other is the product.
func TestP7_11Ratios(t *testing.T) {
	random := rand.New(rand.NewPCG(7, 17))
	good := 0
	for range 3000 {
		l := someTrain(random)
		i := random.IntN(len(l) + 1)
		first, e := support.Ratio(l[:i])
		second, e2 := support.Ratio(l[i:])
		whole, e3 := support.Ratio(l)
		if e != api.OK || e2 != api.OK || e3 != api.OK {
			continue
		}
		good++
		if !isRat(whole, new(big.Rat).Mul(rat(first), rat(second))) {
			t.Fatal(l, i, first, second, whole)
		}
	}
	if good < 1000 {
		t.Error("too few", good)
	}
}

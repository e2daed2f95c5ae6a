package support_test

import (
	"math"
	"math/big"
	"math/rand/v2"
	"slices"
	"testing"

	"speculum/api"
	"speculum/support"
)

func convergentsError(t *testing.T, f api.Frac) api.Errno {
	t.Helper()
	l, e := support.Convergents(f)
	none(t, e, l == nil)
	return e
}

func TestP7_7ConvergentErrors(t *testing.T) {
	for f, want := range map[api.Frac]api.Errno{
		frac(0, 1): api.OK, frac(1000000000, 1): api.OK, frac(1, 1000000000): api.OK, frac(1000000000, 999999999): api.OK,
		{}: api.ErrForm, frac(0, 2): api.ErrForm, frac(2, 4): api.ErrForm, frac(1, -2): api.ErrForm, frac(-1, -2): api.ErrForm, frac(-2, 4): api.ErrForm, frac(1, 0): api.ErrForm,
		frac(1000000001, 1): api.ErrRange, frac(1, 1000000001): api.ErrRange, frac(-1000000001, 1): api.ErrRange, frac(math.MinInt, 1): api.ErrRange, frac(1, math.MaxInt): api.ErrRange,
		frac(-1, 1): api.ErrRange, frac(-1, 1000000000): api.ErrRange, frac(-1000000000, 1): api.ErrRange,
		frac(math.MinInt, 2): api.ErrForm, frac(1, math.MinInt): api.ErrForm, frac(2000000002, 2): api.ErrForm,
	} {
		if e := convergentsError(t, f); e != want {
			t.Error(f, e, want)
		}
	}
}

func TestP7_7Convergents(t *testing.T) {
	for _, want := range [][]api.Frac{
		{frac(3, 1), frac(22, 7), frac(355, 113)},
		{frac(0, 1)},
		{frac(1, 1)},
		{frac(7, 1)},
		{frac(1000000000, 1)},
		{frac(0, 1), frac(1, 2)},
		{frac(0, 1), frac(1, 1), frac(2, 3)},
		{frac(0, 1), frac(1, 1000000000)},
		{frac(1, 1), frac(3, 2)},
		{frac(1, 1), frac(1000000000, 999999999)},
		{frac(0, 1), frac(1, 1), frac(999999999, 1000000000)},
		{frac(2, 1), frac(3, 1), frac(8, 3), frac(11, 4), frac(19, 7), frac(87, 32)},
	} {
		if l, e := support.Convergents(want[len(want)-1]); !slices.Equal(l, want) || e != api.OK {
			t.Error(want, l, e)
		}
	}
}

// someFrac is a fraction that is not below 0.
func someFrac(random *rand.Rand) api.Frac {
	most := []int{5, 30, 1000, 1000000000}[random.IntN(4)]
	f := big.NewRat(int64(random.IntN(most+1)), int64(1+random.IntN(most)))
	return frac(int(f.Num().Int64()), int(f.Denom().Int64()))
}

// golden is the fraction of the two greatest small numbers of Fibonacci, which has the most convergents.
func golden() api.Frac {
	f := frac(1, 1)
	for f.Num+f.Den <= 1000000000 {
		f = frac(f.Num+f.Den, f.Num)
	}
	return f
}

// terms is the numbers a0, a1 and so on of the continued fraction of f.
func terms(f api.Frac) []int64 {
	var l []int64
	for left := rat(f); ; left.Inv(left) {
		whole := new(big.Int).Quo(left.Num(), left.Denom())
		l = append(l, whole.Int64())
		left.Sub(left, new(big.Rat).SetInt(whole))
		if left.Sign() == 0 {
			return l
		}
	}
}

func TestP7_7SomeConvergents(t *testing.T) {
	random := rand.New(rand.NewPCG(7, 18))
	for i := range 5000 {
		f := someFrac(random)
		if i == 0 {
			f = golden()
		}
		l, e := support.Convergents(f)
		a := terms(f)
		if e != api.OK || len(l) != len(a) || i == 0 && len(l) < 40 {
			t.Fatal(f, l, a, e)
		}
		for n := range a {
			value := big.NewRat(a[n], 1)
			for i := n - 1; i >= 0; i-- {
				value.Add(big.NewRat(a[i], 1), value.Inv(value))
			}
			if !isRat(l[n], value) {
				t.Fatal(f, l, n, value)
			}
		}
	}
}

// TestP7_11Convergents checks neighbours, each of which lies nearer to the fraction than the one before it.
func TestP7_11Convergents(t *testing.T) {
	random := rand.New(rand.NewPCG(7, 19))
	for range 5000 {
		f := someFrac(random)
		l, _ := support.Convergents(f)
		if len(l) == 0 || l[len(l)-1] != f {
			t.Fatal(f, l)
		}
		for i := range len(l) - 1 {
			a, b := l[i], l[i+1]
			if d := a.Num*b.Den - b.Num*a.Den; d != 1 && d != -1 {
				t.Fatal("no neighbours", f, a, b)
			}
			before, behind := new(big.Rat).Sub(rat(a), rat(f)), new(big.Rat).Sub(rat(b), rat(f))
			if before.Abs(before).Cmp(behind.Abs(behind)) <= 0 {
				t.Fatal("not nearer", f, a, b)
			}
		}
	}
}

// choice is the arguments of BestPair and CheckBest, of which valid ones are accepted.
type choice struct {
	ratio       api.Frac
	least, most int
	g           api.GearPair
}

func validChoice() choice {
	return choice{frac(1, 2), 3, 8, pair(4, 8)}
}

func bestError(t *testing.T, x choice) api.Errno {
	t.Helper()
	g, e := support.BestPair(x.ratio, x.least, x.most)
	none(t, e, g == api.GearPair{})
	return agree(t, e, proofOfBest(t, x))
}

func proofOfBest(t *testing.T, x choice) api.Errno {
	t.Helper()
	f, e := support.CheckBest(x.ratio, x.least, x.most, x.g)
	none(t, e, f == api.Frac{})
	return e
}

// choiceFaults are the faults of what BestPair takes.
func choiceFaults() []fault[choice] {
	var faults []fault[choice]
	add := func(want api.Errno, ratios ...api.Frac) {
		for _, f := range ratios {
			faults = append(faults, fault[choice]{func(x *choice) { x.ratio = f }, want})
		}
	}
	add(api.ErrForm, api.Frac{}, frac(1, 0), frac(2, 4), frac(0, 2), frac(1, -2), frac(-2, 4), frac(math.MinInt, math.MinInt))
	add(api.ErrRange, frac(1000000001, 1), frac(1, 1000000001), frac(math.MinInt, 1), frac(0, 1), frac(-1, 2), frac(-1000000000, 1))
	faults = append(faults, numberFaults(func(x *choice) *int { return &x.least }, 1, 500, api.ErrRange)...)
	faults = append(faults, numberFaults(func(x *choice) *int { return &x.most }, 1, 500, api.ErrRange)...)
	return append(faults,
		fault[choice]{func(x *choice) { x.most = 2 }, api.ErrOrder},
		fault[choice]{func(x *choice) { x.least = 9 }, api.ErrOrder},
		fault[choice]{func(x *choice) { x.least, x.most = 500, 1 }, api.ErrOrder},
	)
}

func TestP7_7BestPairFaults(t *testing.T) {
	checkFaults(t, validChoice, bestError, choiceFaults())
	wide := func() choice { return choice{frac(1, 1), 1, 500, pair(250, 250)} }
	checkLimits(t, wide, bestError, func(x *choice) *int { return &x.least }, 1, 250)
	checkLimits(t, wide, bestError, func(x *choice) *int { return &x.most }, 250, 500)
	narrow := choice{frac(1000000000, 1), 500, 500, pair(500, 500)}
	if e := bestError(t, narrow); e != api.OK {
		t.Error(e)
	}
}

func TestP7_7CheckBestFaults(t *testing.T) {
	faults := choiceFaults()
	faults = append(faults, numberFaults(func(x *choice) *int { return &x.g.Driver }, 3, 8, api.ErrRange)...)
	faults = append(faults, numberFaults(func(x *choice) *int { return &x.g.Driven }, 3, 8, api.ErrRange)...)
	for _, g := range []api.GearPair{pair(3, 7), pair(3, 8), pair(8, 4), pair(5, 8), pair(3, 3)} {
		faults = append(faults, fault[choice]{func(x *choice) { x.g = g }, api.ErrProof})
	}
	checkFaults(t, validChoice, proofOfBest, faults)
	// 1 / 3 differs from 333333333 / 1000000000 by 1 / 3000000000, 4 / 11 differs more.
	small := choice{frac(333333333, 1000000000), 1, 11, pair(1, 3)}
	for g, want := range map[api.GearPair]api.Errno{pair(1, 3): api.ErrLarge, pair(3, 9): api.ErrLarge, pair(4, 11): api.ErrProof, pair(12, 11): api.ErrRange} {
		small.g = g
		if e := proofOfBest(t, small); e != want {
			t.Error(g, e, want)
		}
	}
}

func TestP7_7BestPairs(t *testing.T) {
	for _, c := range []struct {
		ratio       api.Frac
		least, most int
		want        api.GearPair
		off         api.Frac
	}{
		{frac(355, 113), 1, 100, pair(22, 7), frac(1, 791)},
		{frac(355, 113), 1, 500, pair(355, 113), frac(0, 1)},
		{frac(355, 113), 8, 100, pair(44, 14), frac(1, 791)}, // a common divisor
		{frac(1, 1), 9, 10, pair(9, 9), frac(0, 1)},
		{frac(1, 2), 2, 5, pair(2, 4), frac(0, 1)},
		{frac(1000000000, 1), 1, 500, pair(500, 1), frac(999999500, 1)},
		{frac(1, 1000000000), 1, 500, pair(1, 500), frac(1999999, 1000000000)},
		{frac(1, 1000), 200, 250, pair(200, 250), frac(799, 1000)},
		{frac(1000, 1), 200, 250, pair(250, 200), frac(3995, 4)},
		{frac(7, 4), 1, 2, pair(2, 1), frac(1, 4)},
		{frac(5, 4), 1, 2, pair(1, 1), frac(1, 4)},
		{frac(3, 2), 1, 1, pair(1, 1), frac(1, 2)},
		{frac(5, 2), 1, 1, pair(1, 1), frac(3, 2)},
		{frac(3, 4), 1, 2, pair(1, 1), frac(1, 4)}, // 1 / 2 differs as much, but has more teeth
		{frac(3, 2), 3, 3, pair(3, 3), frac(1, 2)},
		{frac(11, 12), 5, 6, pair(5, 5), frac(1, 12)}, // so has 5 / 6
		{frac(500, 499), 1, 500, pair(500, 499), frac(0, 1)},
		{frac(499, 500), 1, 500, pair(499, 500), frac(0, 1)},
	} {
		g, e := support.BestPair(c.ratio, c.least, c.most)
		off, e2 := support.CheckBest(c.ratio, c.least, c.most, g)
		if g != c.want || off != c.off || agree(t, e, e2) != api.OK {
			t.Error(c, g, off, e, e2)
		}
	}
}

// better is whether a is to be taken rather than b, by numbers of any size; and whether it differs less.
func better(ratio *big.Rat, a, b api.GearPair) (isTaken, isNearer bool) {
	off := func(g api.GearPair) *big.Rat {
		d := new(big.Rat).Sub(big.NewRat(int64(g.Driver), int64(g.Driven)), ratio)
		return d.Abs(d)
	}
	c := off(a).Cmp(off(b))
	if c == 0 {
		sum := a.Driver + a.Driven - b.Driver - b.Driven
		return sum < 0 || sum == 0 && a.Driver < b.Driver, false
	}
	return c < 0, c < 0
}

// nearestOf is the pair that BestPair is to return, found by trying all of them.
func nearestOf(ratio api.Frac, least, most int) api.GearPair {
	best := pair(least, least)
	for driver := least; driver <= most; driver++ {
		for driven := least; driven <= most; driven++ {
			if isTaken, _ := better(rat(ratio), pair(driver, driven), best); isTaken {
				best = pair(driver, driven)
			}
		}
	}
	return best
}

func TestP7_7AgainstAllPairs(t *testing.T) {
	random := rand.New(rand.NewPCG(7, 20))
	counts := map[api.Errno]int{}
	for range 800 {
		ratio := someFrac(random)
		if ratio.Num == 0 {
			continue
		}
		least := 1 + random.IntN(20)
		most := least + random.IntN(18)
		want := nearestOf(ratio, least, most)
		if g, e := support.BestPair(ratio, least, most); g != want || e != api.OK {
			t.Fatal(ratio, least, most, g, want, e)
		}
		for range 10 {
			g := pair(least+random.IntN(most-least+1), least+random.IntN(most-least+1))
			if random.IntN(2) == 0 {
				g = want
			}
			difference := new(big.Rat).Sub(big.NewRat(int64(g.Driver), int64(g.Driven)), rat(ratio))
			difference.Abs(difference)
			wanted := api.OK
			if _, isNearer := better(rat(ratio), want, g); isNearer {
				wanted = api.ErrProof
			} else if !isSmall(difference) {
				wanted = api.ErrLarge
			}
			off, e := support.CheckBest(ratio, least, most, g)
			if e != wanted || e == api.OK && !isRat(off, difference) {
				t.Fatal(ratio, least, most, g, off, e, wanted)
			}
			counts[e]++
		}
	}
	for _, e := range []api.Errno{api.OK, api.ErrProof, api.ErrLarge} {
		if counts[e] < 500 {
			t.Error("too few of a kind", e, counts)
		}
	}
}

// TestP7_7EqualPairs checks ratios in the middle of two others, so that several pairs differ least.
func TestP7_7EqualPairs(t *testing.T) {
	for least := 1; least <= 7; least++ {
		for most := least; most <= 9; most++ {
			for a := least; a <= most; a++ {
				for b := least; b <= most; b++ {
					middle := new(big.Rat).Add(big.NewRat(int64(a), int64(b)), big.NewRat(int64(b), int64(a)))
					middle.Quo(middle, big.NewRat(2, 1))
					next := new(big.Rat).Add(big.NewRat(int64(a), int64(b)), big.NewRat(int64(least), int64(most)))
					next.Quo(next, big.NewRat(2, 1))
					for _, m := range []*big.Rat{middle, next} {
						ratio := frac(int(m.Num().Int64()), int(m.Denom().Int64()))
						if g, e := support.BestPair(ratio, least, most); g != nearestOf(ratio, least, most) || e != api.OK {
							t.Fatal(ratio, least, most, g, e)
						}
					}
				}
			}
		}
	}
}

// TestP7_11BestPairs checks that no pair with up to 500 teeth is better than that of BestPair, which CheckBest accepts.
func TestP7_11BestPairs(t *testing.T) {
	random := rand.New(rand.NewPCG(7, 21))
	for range 100 {
		ratio := someFrac(random)
		if ratio.Num == 0 {
			continue
		}
		least, most := 1+random.IntN(100), 400+random.IntN(101)
		g, e := support.BestPair(ratio, least, most)
		if _, e2 := support.CheckBest(ratio, least, most, g); e != api.OK || e2 != api.OK && e2 != api.ErrLarge {
			t.Fatal(ratio, least, most, g, e, e2)
		}
		best, _ := big.NewRat(int64(g.Driver), int64(g.Driven)).Float64()
		wanted, _ := rat(ratio).Float64()
		for driver := least; driver <= most; driver++ {
			for driven := least; driven <= most; driven++ {
				// Only pairs that seem to be as good are compared exactly.
				if math.Abs(float64(driver)/float64(driven)-wanted) < math.Abs(best-wanted)*(1+1e-9)+1e-9 {
					if isTaken, _ := better(rat(ratio), pair(driver, driven), g); isTaken {
						t.Fatal(ratio, least, most, g, driver, driven)
					}
				}
			}
		}
	}
}

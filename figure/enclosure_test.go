package figure_test

import (
	"iter"
	"math"
	"math/big"
	"math/rand/v2"
	"slices"
	"testing"

	"speculum/api"
	"speculum/figure"
)

func tolerance(peak, slope int) api.FigureTolerance {
	return api.FigureTolerance{Peak: peak, Slope: slope}
}

// chapterEnclosure is that of the chapter's fifth example.
func chapterEnclosure() []api.Range {
	return []api.Range{span(0, 2), span(1, 4), span(3, 5)}
}

// exact is the enclosure of one surface alone.
func exact(heights ...int) []api.Range {
	var l []api.Range
	for _, height := range heights {
		l = append(l, span(height, height))
	}
	return l
}

// surfaces yields all surfaces of an enclosure, the lower ones before the higher ones. Each one is overwritten by the next one.
func surfaces(l []api.Range) iter.Seq[[]int] {
	return func(yield func([]int) bool) {
		heights := make([]int, len(l))
		for zone, r := range l {
			heights[zone] = r.Lo
		}
		for yield(heights) {
			zone := len(l) - 1
			for zone >= 0 && heights[zone] == l[zone].Hi {
				heights[zone] = l[zone].Lo
				zone--
			}
			if zone < 0 {
				return
			}
			heights[zone]++
		}
	}
}

// peakOf is the greatest difference of two zones, slopeOf that of two neighbours.
func peakOf(heights []int) int { return slices.Max(heights) - slices.Min(heights) }

func slopeOf(heights []int) int {
	slope := 0
	for zone := range len(heights) - 1 {
		slope = max(slope, heights[zone+1]-heights[zone], heights[zone]-heights[zone+1])
	}
	return slope
}

// meets tells, by the definition, whether a surface meets a tolerance.
func meets(heights []int, x api.FigureTolerance) bool {
	return peakOf(heights) <= x.Peak && slopeOf(heights) <= x.Slope
}

// someEnclosure is an enclosure of a few zones that has not too many surfaces.
func someEnclosure(random *rand.Rand) []api.Range {
	zones := 1 + random.IntN(5)
	width := []int{9, 9, 5, 3, 2}[zones-1]
	spread := 1 + random.IntN(9)
	from := random.IntN(200001-spread-width) - 100000
	if random.IntN(2) == 0 {
		from = -random.IntN(spread)
	}
	var l []api.Range
	for range zones {
		lo := from + random.IntN(spread)
		l = append(l, span(lo, lo+random.IntN(width+1)))
	}
	return l
}

// greatEnclosure is an enclosure of up to 40 zones.
func greatEnclosure(random *rand.Rand) []api.Range {
	zones := 1 + random.IntN(40)
	spread, width := []int{3, 300, 90000}[random.IntN(3)], []int{2, 200, 9000}[random.IntN(3)]
	var l []api.Range
	for range zones {
		lo := random.IntN(2*spread+1) - spread
		l = append(l, span(lo, lo+random.IntN(width+1)))
	}
	return l
}

func TestP6_4EnclosureFaults(t *testing.T) {
	checkFaults(t, validRated, enclosureError, enclosureFaults())
	for zone := range 3 {
		x := validRated()
		x.l[zone] = span(100000, 100000)
		y := validRated()
		y.l[zone] = span(-100000, 100000)
		if e := agree(t, enclosureError(t, x), enclosureError(t, y)); e != api.OK {
			t.Error(zone, e)
		}
	}
	for zones := range 43 {
		want := api.OK
		if zones < 1 || zones > 40 {
			want = api.ErrShape
		}
		if e := figure.CheckEnclosure(make([]api.Range, zones)); e != want {
			t.Error(zones, e)
		}
	}
	for _, x := range []struct {
		l    []api.Range
		want api.Errno
	}{
		{[]api.Range{span(2, 1), span(100001, 0)}, api.ErrOrder},
		{[]api.Range{span(100001, 1), span(2, 1)}, api.ErrRange},
		{[]api.Range{span(0, 0), span(2, 1), span(0, -100001)}, api.ErrOrder},
		{[]api.Range{span(-100000, -100000)}, api.OK},
		{[]api.Range{span(math.MinInt, math.MaxInt)}, api.ErrRange},
		{slices.Repeat([]api.Range{span(2, 1)}, 41), api.ErrShape},
	} {
		if e := figure.CheckEnclosure(x.l); e != x.want {
			t.Error(x, e)
		}
	}
}

func TestP6_4ToleranceFaults(t *testing.T) {
	errorOf := func(t *testing.T, x api.FigureTolerance) api.Errno { return figure.CheckTolerance(x) }
	peak := func(x *api.FigureTolerance) *int { return &x.Peak }
	slope := func(x *api.FigureTolerance) *int { return &x.Slope }
	valid := func() api.FigureTolerance { return tolerance(5, 4) }
	checkFaults(t, valid, errorOf, append(numberFaults(peak, 0, 200000, api.ErrRange), numberFaults(slope, 0, 200000, api.ErrRange)...))
	checkLimits(t, valid, errorOf, peak, 0, 200000)
	checkLimits(t, valid, errorOf, slope, 0, 200000)
}

func TestP6_4MeetsFaults(t *testing.T) {
	type surface struct {
		heights []int
		t       api.FigureTolerance
	}
	valid := func() surface { return surface{[]int{0, 1, 3}, tolerance(3, 2)} }
	errorOf := func(t *testing.T, x surface) api.Errno {
		t.Helper()
		pair, e := figure.Meets(x.heights, x.t)
		none(t, e, pair == [2]int{} || e == api.ErrBreak)
		return e
	}
	faults := heightFaults(func(x *surface) *[]int { return &x.heights })
	faults = append(faults, numberFaults(func(x *surface) *int { return &x.t.Peak }, 0, 200000, api.ErrRange)...)
	faults = append(faults, numberFaults(func(x *surface) *int { return &x.t.Slope }, 0, 200000, api.ErrRange)...)
	checkFaults(t, valid, errorOf, append(faults,
		fault[surface]{func(x *surface) { x.heights = []int{0, 1, 4} }, api.ErrBreak},
		fault[surface]{func(x *surface) { x.heights = []int{0, 3, 3} }, api.ErrBreak},
	))
}

func TestP6_4Meets(t *testing.T) {
	for _, x := range []struct {
		heights []int
		t       api.FigureTolerance
		pair    [2]int
		want    api.Errno
	}{
		{[]int{0, 1, 4}, tolerance(3, 3), [2]int{0, 2}, api.ErrBreak},
		{[]int{4, 1, 0}, tolerance(3, 3), [2]int{0, 2}, api.ErrBreak},
		{[]int{0, 1, 4}, tolerance(4, 3), [2]int{}, api.OK},
		{[]int{0, 1, 4}, tolerance(4, 2), [2]int{1, 2}, api.ErrBreak},
		{[]int{0, 3, 4}, tolerance(4, 2), [2]int{0, 1}, api.ErrBreak},
		{[]int{0, 3, 5}, tolerance(4, 2), [2]int{0, 1}, api.ErrBreak},
		{[]int{0, 2, 5}, tolerance(4, 2), [2]int{0, 2}, api.ErrBreak},
		{[]int{0, 2, 4, 4, 0}, tolerance(4, 2), [2]int{3, 4}, api.ErrBreak},
		{[]int{7}, tolerance(0, 0), [2]int{}, api.OK},
		{[]int{7, 7, 7}, tolerance(0, 0), [2]int{}, api.OK},
		{[]int{7, 7, 8}, tolerance(0, 9), [2]int{0, 2}, api.ErrBreak},
		{[]int{7, 7, 8}, tolerance(9, 0), [2]int{0, 2}, api.ErrBreak},
		{[]int{-100000, 100000}, tolerance(200000, 200000), [2]int{}, api.OK},
		{[]int{-100000, 100000}, tolerance(199999, 200000), [2]int{0, 1}, api.ErrBreak},
		{[]int{100000, -100000}, tolerance(200000, 199999), [2]int{0, 1}, api.ErrBreak},
		{append(make([]int, 39), 100000), tolerance(200000, 200000), [2]int{}, api.OK},
	} {
		if pair, e := figure.Meets(x.heights, x.t); pair != x.pair || e != x.want {
			t.Error(x, pair, e)
		}
	}
	random := rand.New(rand.NewPCG(6, 4))
	met, broken := 0, 0
	for range 20000 {
		most := []int{3, 60, 100000}[random.IntN(3)]
		heights := someNumbers(random, 1+random.IntN(9), -most, most)
		x := tolerance(random.IntN(2*most), random.IntN(2*most))
		pair, e := figure.Meets(heights, x)
		want := firstApart(heights, x)
		if pair != want || (e == api.OK) != meets(heights, x) || e != api.OK && e != api.ErrBreak {
			t.Fatal(heights, x, pair, e, want)
		}
		if e == api.OK {
			met++
		} else {
			broken++
		}
	}
	if met < 3000 || broken < 3000 {
		t.Error("too few of a kind", met, broken)
	}
}

// firstApart is the first pair of zones, the lesser number first, that differ by more than their bound.
func firstApart(heights []int, x api.FigureTolerance) [2]int {
	for i := range heights {
		for j := i + 1; j < len(heights); j++ {
			d := max(heights[i]-heights[j], heights[j]-heights[i])
			if d > x.Peak || d > x.Slope*(j-i) {
				return [2]int{i, j}
			}
		}
	}
	return [2]int{}
}

func TestP6_5Ranges(t *testing.T) {
	for _, x := range []struct {
		l           []api.Range
		peak, slope api.Range
	}{
		{chapterEnclosure(), span(1, 5), span(1, 4)},
		{[]api.Range{span(3, 90)}, span(0, 0), span(0, 0)},
		{exact(7, 7), span(0, 0), span(0, 0)},
		{exact(7, -2), span(9, 9), span(9, 9)},
		{exact(0, 5, 7), span(7, 7), span(5, 5)},
		{[]api.Range{span(0, 0), span(-9, 9), span(5, 5)}, span(5, 14), span(3, 14)},
		{[]api.Range{span(0, 0), span(-9, 9), span(-9, 9), span(6, 6)}, span(6, 18), span(2, 18)},
		{[]api.Range{span(0, 0), span(-9, 9), span(-9, 9), span(7, 7)}, span(7, 18), span(3, 18)},
		{[]api.Range{span(7, 7), span(-9, 9), span(-9, 9), span(0, 0)}, span(7, 18), span(3, 18)},
		{[]api.Range{span(0, 20), span(5, 6)}, span(0, 15), span(0, 15)},
		{[]api.Range{span(5, 6), span(0, 20)}, span(0, 15), span(0, 15)},
		{[]api.Range{span(-100000, 100000), span(-100000, 100000)}, span(0, 200000), span(0, 200000)},
		{exact(-100000, 0, 100000, -100000), span(200000, 200000), span(200000, 200000)},
	} {
		if r, e := figure.PeakRange(x.l); r != x.peak || e != api.OK {
			t.Error(x, r, e)
		}
		if r, e := figure.SlopeRange(x.l); r != x.slope || e != api.OK {
			t.Error(x, r, e)
		}
	}
}

// TestP6_11Ranges goes through all surfaces: they are within the ranges, and reach their ends.
func TestP6_11Ranges(t *testing.T) {
	random := rand.New(rand.NewPCG(5, 6))
	touching := 0
	for range 6000 {
		l := someEnclosure(random)
		peak, slope := span(math.MaxInt, 0), span(math.MaxInt, 0)
		for heights := range surfaces(l) {
			p, s := peakOf(heights), slopeOf(heights)
			peak, slope = span(min(peak.Lo, p), max(peak.Hi, p)), span(min(slope.Lo, s), max(slope.Hi, s))
		}
		if r, e := figure.PeakRange(l); r != peak || e != api.OK {
			t.Fatal(l, r, e, peak)
		}
		if r, e := figure.SlopeRange(l); r != slope || e != api.OK {
			t.Fatal(l, r, e, slope)
		}
		if peak.Lo == 0 && len(l) > 1 {
			touching++
		}
	}
	if touching < 500 || touching > 5000 {
		t.Error("too few of a kind", touching)
	}
}

// TestP6_11Great checks by surfaces that the ends of ranges of great enclosures are reached, and by the bounds of a
// tolerance that the lower ones are not passed.
func TestP6_11Great(t *testing.T) {
	random := rand.New(rand.NewPCG(11, 6))
	for range 1500 {
		l := greatEnclosure(random)
		peak, e1 := figure.PeakRange(l)
		slope, e2 := figure.SlopeRange(l)
		if agree(t, e1, e2) != api.OK {
			t.Fatal(l, e1)
		}
		most := span(0, 0)
		for i, a := range l {
			for j, b := range l {
				if i != j {
					most.Lo = max(most.Lo, a.Hi-b.Lo)
				}
				if i-j == 1 || j-i == 1 {
					most.Hi = max(most.Hi, a.Hi-b.Lo)
				}
			}
		}
		if peak.Hi != most.Lo || slope.Hi != most.Hi {
			t.Fatal(l, peak, slope, most)
		}
		for least, x := range map[api.FigureTolerance]api.FigureTolerance{tolerance(peak.Lo, 200000): tolerance(peak.Lo-1, 200000), tolerance(200000, slope.Lo): tolerance(200000, slope.Lo-1)} {
			heights, e := figure.Surface(l, least)
			if e != api.OK || !meets(heights, least) || !isWithin(heights, l) {
				t.Fatal(l, least, heights, e)
			}
			if _, e := figure.Surface(l, x); min(x.Peak, x.Slope) >= 0 && e != api.ErrNone {
				t.Fatal(l, x, e)
			}
		}
	}
}

// isWithin tells whether heights are a surface of an enclosure.
func isWithin(heights []int, l []api.Range) bool {
	for zone, r := range l {
		if heights[zone] < r.Lo || heights[zone] > r.Hi {
			return false
		}
	}
	return len(heights) == len(l)
}

func TestP6_5Squares(t *testing.T) {
	for _, x := range []struct {
		l              []api.Range
		least, highest api.Frac
	}{
		{[]api.Range{span(0, 0), span(2, 4)}, frac(1, 1), frac(4, 1)},
		{[]api.Range{span(2, 4), span(0, 0)}, frac(1, 1), frac(4, 1)},
		{[]api.Range{span(3, 90)}, frac(0, 1), frac(0, 1)},
		{exact(1, 2), frac(1, 4), frac(1, 4)},
		{exact(0, 0, 1), frac(2, 9), frac(2, 9)},
		{[]api.Range{span(0, 5), span(3, 9)}, frac(0, 1), frac(81, 4)},
		{[]api.Range{span(0, 3), span(3, 9)}, frac(0, 1), frac(81, 4)},
		{[]api.Range{span(0, 0), span(10, 10), span(4, 20)}, frac(50, 3), frac(200, 3)},
		{[]api.Range{span(0, 0), span(10, 10), span(-10, 6)}, frac(50, 3), frac(200, 3)},
		{[]api.Range{span(0, 0), span(7, 7), span(-100, 100), span(8, 50)}, frac(38, 4), frac(48347, 16)},
		{slices.Repeat([]api.Range{span(-100000, 100000)}, 10), frac(0, 1), frac(10000000000, 1)},
		{exact(-100000, 100000, 99999, -99999, 0, 1, -1, 100000, -100000, 7), frac(599996000481, 100), frac(599996000481, 100)},
	} {
		want := [2]api.Frac{rational(ratio(x.least.Num, x.least.Den)), rational(ratio(x.highest.Num, x.highest.Den))}
		if f, e := figure.SquareRange(x.l); f != want || e != api.OK {
			t.Error(x, f, e)
		}
	}
	for zones := range 43 {
		want := api.OK
		if zones < 1 || zones > 40 {
			want = api.ErrShape
		} else if zones > 10 {
			want = api.ErrLarge
		}
		f, e := figure.SquareRange(make([]api.Range, zones))
		none(t, e, f == [2]api.Frac{})
		if e != want || e == api.OK && f != [2]api.Frac{frac(0, 1), frac(0, 1)} {
			t.Error(zones, f, e)
		}
	}
	if f, e := figure.SquareRange(append(make([]api.Range, 20), span(1, 0))); f != [2]api.Frac{} || e != api.ErrOrder {
		t.Error(f, e)
	}
}

// square is the mean square of heights, in parts of by, by the definition.
func square(heights []int, by int) *big.Rat {
	mean, n := new(big.Rat), ratio(len(heights)*by, 1)
	for _, height := range heights {
		mean.Add(mean, new(big.Rat).Quo(ratio(height, 1), n))
	}
	of := new(big.Rat)
	for _, height := range heights {
		apart := new(big.Rat).Sub(ratio(height, by), mean)
		of.Add(of, apart.Mul(apart, apart))
	}
	return of.Quo(of, ratio(len(heights), 1))
}

// TestP6_5SquaresByTrial goes through all heights in parts of a number of which each mean of some of them is a part.
func TestP6_5SquaresByTrial(t *testing.T) {
	random := rand.New(rand.NewPCG(65, 6))
	for range 400 {
		l := someEnclosure(random)
		l = l[:min(len(l), 3)]
		parts := []int{1, 2, 6}[len(l)-1]
		var finer []api.Range
		for _, r := range l {
			r.Hi = min(r.Hi, r.Lo+2)
			finer = append(finer, span(r.Lo*parts, r.Hi*parts))
		}
		for zone := range l {
			l[zone].Hi = finer[zone].Hi / parts
		}
		var least, greatest *big.Rat
		for heights := range surfaces(finer) {
			of := square(heights, parts)
			if least == nil || of.Cmp(least) < 0 {
				least = of
			}
			if greatest == nil || of.Cmp(greatest) > 0 {
				greatest = of
			}
		}
		if f, e := figure.SquareRange(l); !isFrac(f[0], least) || !isFrac(f[1], greatest) || e != api.OK {
			t.Fatal(l, f, e, least, greatest)
		}
	}
}

// TestP6_5SquaresOfMany holds the least mean square against that of the heights that come nearest to a height, which is
// halved in upon until the heights have it as their mean; the greatest one against the ends of all ranges.
func TestP6_5SquaresOfMany(t *testing.T) {
	random := rand.New(rand.NewPCG(56, 6))
	apart := 0
	for range 400 {
		l := greatEnclosure(random)
		l = l[:min(len(l), 10)]
		f, e := figure.SquareRange(l)
		if e != api.OK {
			t.Fatal(l, e)
		}
		below, above := -100001.0, 100001.0
		least := 0.0
		for range 100 {
			middle := (below + above) / 2
			sum := 0.0
			least = 0
			for _, r := range l {
				d := min(max(middle, float64(r.Lo)), float64(r.Hi)) - middle
				sum, least = sum+d, least+d*d/float64(len(l))
			}
			if sum > 0 {
				below = middle
			} else {
				above = middle
			}
		}
		if x := float64(f[0].Num) / float64(f[0].Den); math.Abs(x-least) > 1e-6*(1+least) {
			t.Fatal(l, f, least)
		}
		if f[0].Num > 0 {
			apart++
		}
		if random.IntN(20) > 0 {
			continue
		}
		var greatest *big.Rat
		for choice := range surfaces(slices.Repeat([]api.Range{span(0, 1)}, len(l))) {
			var ends []int
			for zone, n := range choice {
				ends = append(ends, []int{l[zone].Lo, l[zone].Hi}[n])
			}
			if of := square(ends, 1); greatest == nil || of.Cmp(greatest) > 0 {
				greatest = of
			}
		}
		if !isFrac(f[1], greatest) {
			t.Fatal(l, f, greatest)
		}
	}
	if apart < 100 {
		t.Error("too few", apart)
	}
}

package figure_test

import (
	"math"
	"math/rand/v2"
	"slices"
	"testing"

	"speculum/api"
	"speculum/figure"
)

// rated is the arguments of all functions of enclosures and tolerances, of which valid ones are accepted.
type rated struct {
	l    []api.Range
	t    api.FigureTolerance
	pair [2]int
}

func validRated() rated {
	return rated{chapterEnclosure(), tolerance(3, 2), [2]int{2, 0}}
}

// enclosureError is the error of all functions of enclosures, whose other arguments are valid.
func enclosureError(t *testing.T, x rated) api.Errno {
	t.Helper()
	peak, e1 := figure.PeakRange(x.l)
	none(t, e1, peak == api.Range{})
	slope, e2 := figure.SlopeRange(x.l)
	none(t, e2, slope == api.Range{})
	square, e3 := figure.SquareRange(x.l)
	none(t, e3, square == [2]api.Frac{})
	return agree(t, figure.CheckEnclosure(x.l), e1, e2, e3, judgeError(t, x))
}

// judgeError is the error of all functions of enclosures and tolerances, but for those of what they find.
func judgeError(t *testing.T, x rated) api.Errno {
	t.Helper()
	answer, pair, e1 := figure.Judge(x.l, x.t)
	none(t, e1, answer == 0 && pair == [2]int{})
	text, e2 := figure.Print(x.l, x.t)
	none(t, e2, text == "")
	surface, e3 := figure.Surface(x.l, x.t)
	none(t, e3, surface == nil)
	zone, e4 := figure.Deciding(x.l, x.t)
	none(t, e4, zone == 0)
	e5 := figure.CheckRefused(x.l, x.t, x.pair)
	if slices.Contains([]api.Errno{api.ErrState, api.ErrNone, api.ErrLarge}, e4) {
		e4 = api.OK
	}
	if e3 == api.ErrNone {
		e3 = api.OK
	}
	if e5 == api.ErrProof {
		e5 = api.OK
	}
	return agree(t, e1, e2, e3, e4, e5)
}

// some is a range of an enclosure, of which a fault may have left too little or too much.
func some(x *rated, zone int) *api.Range {
	for len(x.l) < 3 {
		x.l = append(x.l, api.Range{})
	}
	return &x.l[zone]
}

func enclosureFaults() []fault[rated] {
	l := []fault[rated]{
		{func(x *rated) { x.l = nil }, api.ErrShape},
		{func(x *rated) { x.l = make([]api.Range, 41) }, api.ErrShape},
		{func(x *rated) { x.l = slices.Repeat([]api.Range{span(2, 100001)}, 41) }, api.ErrShape},
	}
	for zone := range 3 {
		for _, n := range []int{-100001, 100001, math.MinInt, math.MaxInt} {
			l = append(l,
				fault[rated]{func(x *rated) { *some(x, zone) = span(n, 0) }, api.ErrRange},
				fault[rated]{func(x *rated) { *some(x, zone) = span(0, n) }, api.ErrRange},
				fault[rated]{func(x *rated) { *some(x, zone) = span(n, n) }, api.ErrRange},
			)
		}
		l = append(l,
			fault[rated]{func(x *rated) { *some(x, zone) = span(1, 0) }, api.ErrOrder},
			fault[rated]{func(x *rated) { *some(x, zone) = span(100000, -100000) }, api.ErrOrder},
		)
	}
	return l
}

// acceptanceFaults are the faults of an enclosure and a tolerance.
func acceptanceFaults() []fault[rated] {
	l := append(enclosureFaults(), numberFaults(func(x *rated) *int { return &x.t.Peak }, 0, 200000, api.ErrRange)...)
	return append(l, numberFaults(func(x *rated) *int { return &x.t.Slope }, 0, 200000, api.ErrRange)...)
}

func TestP6_6Faults(t *testing.T) {
	checkFaults(t, validRated, judgeError, acceptanceFaults())
	checkLimits(t, validRated, judgeError, func(x *rated) *int { return &x.t.Peak }, 0, 200000)
	checkLimits(t, validRated, judgeError, func(x *rated) *int { return &x.t.Slope }, 0, 200000)
}

func TestP6_6RefusedFaults(t *testing.T) {
	valid := func() rated { return rated{chapterEnclosure(), tolerance(0, 0), [2]int{2, 0}} }
	errorOf := func(t *testing.T, x rated) api.Errno { return figure.CheckRefused(x.l, x.t, x.pair) }
	pair := func(first, second int, want api.Errno) fault[rated] {
		return fault[rated]{func(x *rated) { x.pair = [2]int{first, second} }, want}
	}
	faults := acceptanceFaults()
	for _, n := range []int{-1, 3, 40, math.MinInt, math.MaxInt} {
		faults = append(faults, pair(n, 0, api.ErrMissing), pair(2, n, api.ErrMissing), pair(n, n, api.ErrMissing))
	}
	faults = append(faults,
		pair(0, 0, api.ErrForm), pair(1, 1, api.ErrForm), pair(2, 2, api.ErrForm),
		pair(0, 2, api.ErrProof), pair(1, 0, api.ErrProof), pair(0, 1, api.ErrProof), pair(1, 2, api.ErrProof), pair(2, 1, api.ErrProof),
	)
	checkFaults(t, valid, errorOf, faults)
	for _, x := range []struct {
		rated
		want api.Errno
	}{
		{rated{chapterEnclosure(), tolerance(1, 0), [2]int{2, 0}}, api.OK},
		{rated{chapterEnclosure(), tolerance(1, 1), [2]int{2, 0}}, api.ErrProof},
		{rated{chapterEnclosure(), tolerance(0, 9), [2]int{2, 0}}, api.OK},
		{rated{exact(0, 0, 7), tolerance(9, 3), [2]int{2, 0}}, api.OK},
		{rated{exact(0, 0, 7), tolerance(9, 3), [2]int{0, 2}}, api.ErrProof},
		{rated{exact(7, 0, 0), tolerance(9, 3), [2]int{0, 2}}, api.OK},
		{rated{exact(0, 0, 6), tolerance(9, 3), [2]int{2, 0}}, api.ErrProof},
		{rated{exact(0, 0, 7), tolerance(6, 4), [2]int{2, 0}}, api.OK},
		{rated{exact(100000, -100000), tolerance(199999, 200000), [2]int{0, 1}}, api.OK},
		{rated{exact(100000, -100000), tolerance(200000, 200000), [2]int{0, 1}}, api.ErrProof},
		{rated{exact(5), tolerance(0, 0), [2]int{0, 0}}, api.ErrForm},
		{rated{exact(5), tolerance(0, 0), [2]int{0, 1}}, api.ErrMissing},
	} {
		if e := errorOf(t, x.rated); e != x.want {
			t.Error(x, e)
		}
	}
}

func TestP6_6Judge(t *testing.T) {
	for _, x := range []struct {
		l      []api.Range
		t      api.FigureTolerance
		answer int
		pair   [2]int
	}{
		{chapterEnclosure(), tolerance(5, 4), 1, [2]int{}},
		{chapterEnclosure(), tolerance(4, 4), 0, [2]int{}},
		{chapterEnclosure(), tolerance(5, 3), 0, [2]int{}},
		{chapterEnclosure(), tolerance(3, 2), 0, [2]int{}},
		{chapterEnclosure(), tolerance(1, 1), 0, [2]int{}},
		{chapterEnclosure(), tolerance(1, 0), -1, [2]int{2, 0}},
		{chapterEnclosure(), tolerance(0, 0), -1, [2]int{2, 0}},
		{exact(4), tolerance(0, 0), 1, [2]int{}},
		{[]api.Range{span(-100000, 100000)}, tolerance(0, 0), 1, [2]int{}},
		{exact(4, 4, 4), tolerance(0, 0), 1, [2]int{}},
		{exact(5, 4, 4), tolerance(0, 0), -1, [2]int{0, 1}},
		{exact(4, 4, 5), tolerance(0, 0), -1, [2]int{2, 0}},
		{exact(4, 5, 4), tolerance(0, 0), -1, [2]int{1, 0}},
		{exact(5, 5, 4), tolerance(0, 0), -1, [2]int{0, 2}},
		{exact(4, 3, 9), tolerance(5, 9), -1, [2]int{2, 1}},
		{exact(3, 6, 9), tolerance(5, 3), -1, [2]int{2, 0}},
		{exact(3, 6, 9), tolerance(6, 3), 1, [2]int{}},
		{exact(9, 6, 3, 9), tolerance(6, 2), -1, [2]int{0, 1}},
		{[]api.Range{span(0, 0), span(0, 9), span(8, 8)}, tolerance(8, 4), 0, [2]int{}},
		{[]api.Range{span(0, 0), span(0, 9), span(9, 9)}, tolerance(9, 4), -1, [2]int{2, 0}},
		{exact(-100000, 100000), tolerance(200000, 200000), 1, [2]int{}},
		{exact(-100000, 100000), tolerance(200000, 199999), -1, [2]int{1, 0}},
		{slices.Repeat([]api.Range{span(-100000, 100000)}, 40), tolerance(200000, 200000), 1, [2]int{}},
		{slices.Repeat([]api.Range{span(-100000, 100000)}, 40), tolerance(199999, 200000), 0, [2]int{}},
	} {
		if answer, pair, e := figure.Judge(x.l, x.t); answer != x.answer || pair != x.pair || e != api.OK {
			t.Error(x, answer, pair, e)
		}
	}
}

// verdict is the answer about an enclosure, and the lowest surface, if there is one, by trial of all surfaces.
func verdict(l []api.Range, x api.FigureTolerance) (int, []int) {
	var least []int
	all, none := true, true
	for heights := range surfaces(l) {
		if !meets(heights, x) {
			all = false
			continue
		}
		none = false
		if least == nil {
			least = slices.Clone(heights)
		}
		for zone, height := range heights {
			least[zone] = min(least[zone], height)
		}
	}
	switch {
	case all:
		return 1, least
	case none:
		return -1, nil
	}
	return 0, least
}

// firstRefusing is the first pair of zones of which the first one is at least more than their bound above the second one.
func firstRefusing(l []api.Range, x api.FigureTolerance) ([2]int, bool) {
	for i, a := range l {
		for j, b := range l {
			if d := a.Lo - b.Hi; i != j && (d > x.Peak || d > x.Slope*max(i-j, j-i)) {
				return [2]int{i, j}, true
			}
		}
	}
	return [2]int{}, false
}

// TestP6_10ThreeAnswers goes through all surfaces.
func TestP6_10ThreeAnswers(t *testing.T) {
	random := rand.New(rand.NewPCG(10, 6))
	counts := map[int]int{}
	for range 12000 {
		l := someEnclosure(random)
		x := tolerance(random.IntN(13), random.IntN(10))
		want, least := verdict(l, x)
		first, refuses := firstRefusing(l, x)
		answer, pair, e := figure.Judge(l, x)
		if answer != want || refuses != (answer == -1) || pair != first || e != api.OK {
			t.Fatal(l, x, answer, pair, e, want, first)
		}
		counts[answer]++
		surface, e := figure.Surface(l, x)
		if answer == -1 {
			if surface != nil || e != api.ErrNone || figure.CheckRefused(l, x, pair) != api.OK {
				t.Fatal(l, x, surface, e, pair)
			}
		} else if !slices.Equal(surface, least) || e != api.OK {
			t.Fatal(l, x, surface, e, least)
		}
		for i := range l {
			for j := range l {
				e := figure.CheckRefused(l, x, [2]int{i, j})
				if i == j && e != api.ErrForm || i != j && answer != -1 && e != api.ErrProof || e == api.OK && answer != -1 {
					t.Fatal(l, x, i, j, e)
				}
			}
		}
	}
	if min(counts[-1], counts[0], counts[1]) < 1000 {
		t.Error("too few of a kind", counts)
	}
}

// TestP6_10Great checks the answers about great enclosures by what proves them.
func TestP6_10Great(t *testing.T) {
	random := rand.New(rand.NewPCG(6, 10))
	counts := map[int]int{}
	for range 4000 {
		l := greatEnclosure(random)
		peak, _ := figure.PeakRange(l)
		slope, _ := figure.SlopeRange(l)
		near := func(r api.Range) int {
			n := []int{r.Lo, r.Hi, (r.Lo + r.Hi) / 2, (r.Lo + r.Hi) / 2}[random.IntN(4)]
			return max(0, min(n+random.IntN(3)-1, 200000))
		}
		x := tolerance(near(peak), near(slope))
		answer, pair, e := figure.Judge(l, x)
		if e != api.OK {
			t.Fatal(l, x, e)
		}
		counts[answer]++
		first, refuses := firstRefusing(l, x)
		if refuses != (answer == -1) || pair != first || (answer == 1) != (x.Peak >= peak.Hi && x.Slope >= slope.Hi) {
			t.Fatal(l, x, answer, pair, first)
		}
		surface, e := figure.Surface(l, x)
		if answer == -1 {
			if figure.CheckRefused(l, x, pair) != api.OK || surface != nil || e != api.ErrNone {
				t.Fatal(l, x, pair, surface, e)
			}
			continue
		}
		if pair, e := figure.Meets(surface, x); pair != [2]int{} || e != api.OK || !meets(surface, x) || !isWithin(surface, l) || !isLow(surface, l, x) {
			t.Fatal(l, x, surface, pair, e)
		}
	}
	if min(counts[-1], counts[0], counts[1]) < 300 {
		t.Error("too few of a kind", counts)
	}
}

// isLow tells whether no zone of a surface could be lower, because of its range or that of another zone.
func isLow(surface []int, l []api.Range, x api.FigureTolerance) bool {
	for i, height := range surface {
		isHeld := false
		for j, r := range l {
			isHeld = isHeld || height == r.Lo-min(x.Peak, x.Slope*max(i-j, j-i))
		}
		if !isHeld {
			return false
		}
	}
	return true
}

func TestP6_10Narrower(t *testing.T) {
	random := rand.New(rand.NewPCG(110, 6))
	counts := map[[2]int]int{}
	for range 12000 {
		l := someEnclosure(random)
		if random.IntN(2) == 0 {
			l = greatEnclosure(random)
		}
		peak, _ := figure.PeakRange(l)
		slope, _ := figure.SlopeRange(l)
		x := tolerance(max(0, random.IntN(peak.Hi+3)), max(0, random.IntN(slope.Hi+3)))
		if random.IntN(3) == 0 {
			x = tolerance(peak.Hi, slope.Hi)
		}
		narrower, alone := slices.Clone(l), slices.Clone(l)
		for zone, r := range l {
			lo := r.Lo + random.IntN(r.Hi-r.Lo+1)
			narrower[zone] = span(lo, lo+random.IntN(r.Hi-lo+1))
			alone[zone] = span(lo, lo)
		}
		before, _, e1 := figure.Judge(l, x)
		behind, _, e2 := figure.Judge(narrower, x)
		last, _, e3 := figure.Judge(alone, x)
		if agree(t, e1, e2, e3) != api.OK || before != 0 && (behind != before || last != before) || behind != 0 && last != behind || last == 0 {
			t.Fatal(l, x, narrower, before, behind, last)
		}
		counts[[2]int{before, behind}]++
	}
	for _, x := range [][2]int{{1, 1}, {-1, -1}, {0, 0}, {0, 1}, {0, -1}} {
		if counts[x] < 100 {
			t.Error("too few of a kind", x, counts)
		}
	}
}

func TestP6_11LesserTolerance(t *testing.T) {
	random := rand.New(rand.NewPCG(111, 6))
	fewer := 0
	for range 12000 {
		l := someEnclosure(random)
		x := tolerance(random.IntN(16), random.IntN(12))
		y := tolerance(random.IntN(x.Peak+1), random.IntN(x.Slope+1))
		wide, _, e1 := figure.Judge(l, x)
		narrow, _, e2 := figure.Judge(l, y)
		if agree(t, e1, e2) != api.OK || narrow > wide {
			t.Fatal(l, x, y, narrow, wide)
		}
		if narrow < wide {
			fewer++
		}
		var heights []int
		for _, r := range l {
			heights = append(heights, r.Lo)
		}
		_, e1 = figure.Meets(heights, x)
		if _, e2 = figure.Meets(heights, y); e2 == api.OK && e1 != api.OK {
			t.Fatal(heights, x, y, e1, e2)
		}
	}
	if fewer < 1000 {
		t.Error("too few", fewer)
	}
}

func TestP6_6Surface(t *testing.T) {
	for _, x := range []struct {
		l       []api.Range
		t       api.FigureTolerance
		heights []int
		want    api.Errno
	}{
		{chapterEnclosure(), tolerance(3, 2), []int{0, 1, 3}, api.OK},
		{chapterEnclosure(), tolerance(1, 2), []int{2, 2, 3}, api.OK},
		{chapterEnclosure(), tolerance(1, 1), []int{2, 2, 3}, api.OK},
		{chapterEnclosure(), tolerance(0, 0), nil, api.ErrNone},
		{chapterEnclosure(), tolerance(200000, 200000), []int{0, 1, 3}, api.OK},
		{[]api.Range{span(-9, 9), span(-9, 9), span(-9, 9), span(6, 9)}, tolerance(20, 2), []int{0, 2, 4, 6}, api.OK},
		{[]api.Range{span(6, 9), span(-9, 9), span(-9, 9), span(-9, 9)}, tolerance(5, 2), []int{6, 4, 2, 1}, api.OK},
		{[]api.Range{span(-9, 9), span(8, 9), span(-9, 9), span(9, 9)}, tolerance(20, 2), []int{6, 8, 7, 9}, api.OK},
		{[]api.Range{span(-9, 9), span(8, 9), span(-9, 6), span(9, 9)}, tolerance(20, 2), nil, api.ErrNone},
		{exact(4), tolerance(0, 0), []int{4}, api.OK},
		{[]api.Range{span(-100000, 100000), exact(100000)[0]}, tolerance(0, 9), []int{100000, 100000}, api.OK},
	} {
		if heights, e := figure.Surface(x.l, x.t); !slices.Equal(heights, x.heights) || e != x.want {
			t.Error(x, heights, e)
		}
	}
}

func TestP6_6DecidingFaults(t *testing.T) {
	valid := func() rated {
		return rated{[]api.Range{span(0, 0), span(0, 2), span(1, 1)}, tolerance(1, 1), [2]int{}}
	}
	errorOf := func(t *testing.T, x rated) api.Errno {
		t.Helper()
		zone, e := figure.Deciding(x.l, x.t)
		none(t, e, zone == 0)
		return e
	}
	checkFaults(t, valid, errorOf, append(acceptanceFaults(),
		fault[rated]{func(x *rated) { x.t = tolerance(200000, 200000) }, api.ErrState},
		fault[rated]{func(x *rated) { x.l[0] = span(300, 300) }, api.ErrState},
		fault[rated]{func(x *rated) { x.l[1] = span(0, 201) }, api.ErrLarge},
		fault[rated]{func(x *rated) { x.l[0] = span(-100000, 100000) }, api.ErrLarge},
		fault[rated]{func(x *rated) { x.l[2] = span(-200, 1) }, api.ErrLarge},
		fault[rated]{func(x *rated) { x.l[0] = span(0, 3) }, api.ErrNone},
	))
}

func TestP6_6Deciding(t *testing.T) {
	wide := slices.Repeat([]api.Range{span(0, 200)}, 40)
	for _, x := range []struct {
		l    []api.Range
		t    api.FigureTolerance
		zone int
		want api.Errno
	}{
		{[]api.Range{span(0, 0), span(0, 2)}, tolerance(1, 1), 1, api.OK},
		{[]api.Range{span(0, 2), span(0, 0)}, tolerance(1, 1), 0, api.OK},
		{[]api.Range{span(0, 0), span(0, 200)}, tolerance(1, 1), 1, api.OK},
		{[]api.Range{span(0, 0), span(0, 201)}, tolerance(1, 1), 0, api.ErrLarge},
		{[]api.Range{span(0, 0), span(0, 201)}, tolerance(201, 201), 0, api.ErrState},
		{[]api.Range{span(0, 2), span(0, 2)}, tolerance(1, 1), 0, api.ErrNone},
		{[]api.Range{span(0, 1), span(0, 2)}, tolerance(1, 1), 0, api.ErrNone},
		{[]api.Range{span(0, 0), span(0, 1), span(0, 3)}, tolerance(1, 1), 2, api.OK},
		{[]api.Range{span(0, 3), span(0, 1), span(0, 0)}, tolerance(1, 1), 0, api.OK},
		{[]api.Range{span(0, 1), span(0, 0), span(0, 1)}, tolerance(0, 9), 0, api.ErrNone},
		{[]api.Range{span(0, 1), span(0, 0), span(5, 8)}, tolerance(7, 9), 2, api.OK},
		{[]api.Range{span(0, 1), span(1, 1), span(5, 8)}, tolerance(7, 9), 0, api.ErrNone},
		{[]api.Range{span(0, 1), span(0, 0), span(5, 8)}, tolerance(9, 6), 2, api.OK},
		{[]api.Range{span(0, 2), span(0, 2), span(0, 2)}, tolerance(1, 1), 0, api.ErrNone},
		{[]api.Range{span(0, 2), span(0, 0), span(0, 2)}, tolerance(1, 1), 0, api.ErrNone},
		{[]api.Range{span(100000, 100000), span(99998, 100000)}, tolerance(1, 1), 1, api.OK},
		{[]api.Range{span(-100000, -100000), span(-100000, -99998)}, tolerance(1, 1), 1, api.OK},
		{wide, tolerance(199, 200), 0, api.ErrNone},
		{wide[:2], tolerance(199, 199), 0, api.ErrNone},
		{exact(0, 9), tolerance(9, 9), 0, api.ErrState},
		{exact(0, 9), tolerance(8, 8), 0, api.ErrState},
	} {
		if zone, e := figure.Deciding(x.l, x.t); zone != x.zone || e != x.want {
			t.Error(x, zone, e)
		}
	}
}

// decidingByTrial is the first zone whose heights leave nothing open, or -1.
func decidingByTrial(l []api.Range, x api.FigureTolerance) int {
	for zone, r := range l {
		isOpen := false
		for height := r.Lo; height <= r.Hi; height++ {
			known := slices.Clone(l)
			known[zone] = span(height, height)
			answer, _ := verdict(known, x)
			isOpen = isOpen || answer == 0
		}
		if !isOpen {
			return zone
		}
	}
	return -1
}

func TestP6_6DecidingByTrial(t *testing.T) {
	random := rand.New(rand.NewPCG(66, 6))
	counts := map[int]int{}
	for range 6000 {
		l := someEnclosure(random)
		if len(l) > 1 && random.IntN(2) == 0 { // most zones are known
			for zone := range l {
				if random.IntN(3) > 0 {
					l[zone].Hi = l[zone].Lo
				}
			}
		}
		x := tolerance(random.IntN(13), random.IntN(10))
		zone, e := figure.Deciding(l, x)
		if answer, _ := verdict(l, x); answer != 0 {
			if zone != 0 || e != api.ErrState {
				t.Fatal(l, x, zone, e)
			}
			continue
		}
		want := decidingByTrial(l, x)
		counts[want]++
		if want < 0 && (zone != 0 || e != api.ErrNone) || want >= 0 && (zone != want || e != api.OK) {
			t.Fatal(l, x, zone, e, want)
		}
	}
	if min(counts[-1], counts[0], counts[1], counts[2], counts[3]) < 20 {
		t.Error("too few of a kind", counts)
	}
}

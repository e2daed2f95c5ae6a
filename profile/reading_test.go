package profile_test

import (
	"math"
	"math/rand/v2"
	"slices"
	"testing"

	"speculum/api"
	"speculum/profile"
)

// task is the arguments of all functions of zones and readings, of which valid ones are accepted.
type task struct {
	zones           int
	l               []api.HeightReading
	r               api.HeightReading
	pair            [2]int
	heights, circle []int
}

func reading(from, to, lo, hi int) api.HeightReading {
	return api.HeightReading{From: from, To: to, Diff: span(lo, hi)}
}

func chapterReadings() []api.HeightReading {
	return []api.HeightReading{reading(0, 1, 50, 70), reading(1, 2, -20, 0), reading(0, 2, 45, 90)}
}

// clashingReadings are those of the chapter's third example.
func clashingReadings() []api.HeightReading {
	return []api.HeightReading{reading(0, 1, 50, 70), reading(1, 2, -20, 0), reading(0, 2, 80, 90)}
}

func validTask() task {
	return task{
		zones:   3,
		l:       chapterReadings(),
		r:       reading(2, 0, -60, -50),
		pair:    [2]int{1, 2},
		heights: []int{7, 67, 57},
		circle:  []int{1, 2, -3}, // its sum is not below 0
	}
}

// clash makes the readings of a valid task contradict each other.
func clash(x *task) {
	x.l[2] = reading(1, 0, -45, -40)
}

// open leaves zone 2 of a valid task without a way from zone 0.
func open(x *task) {
	x.l[1], x.l[2] = reading(1, 0, -70, -50), reading(0, 1, 45, 90)
}

// readingsError is the error of all functions of zones and readings, whose other arguments are valid.
func readingsError(t *testing.T, x task) api.Errno {
	t.Helper()
	n, e := profile.CheckHeights(x.zones, x.l, x.heights)
	none(t, e, n == 0)
	return agree(t, profile.CheckReadings(x.zones, x.l), e, clashError(t, x), agreeingError(t, x))
}

// clashError is the error of CheckClash, to which the circle of a valid task is an accepted one.
func clashError(t *testing.T, x task) api.Errno {
	t.Helper()
	n, e := profile.CheckClash(x.zones, x.l, x.circle)
	none(t, e, n == 0)
	if e == api.ErrProof {
		return api.OK
	}
	return e
}

// agreeingError is the error of all functions that tell whether readings contradict each other.
func agreeingError(t *testing.T, x task) api.Errno {
	t.Helper()
	l, e := profile.Needless(x.zones, x.l)
	none(t, e, l == nil)
	return agree(t, e, addError(t, x), betweenError(t, x), joinedError(t, x))
}

// joinedError is the error of all functions that tell whether all zones have ways from zone 0.
func joinedError(t *testing.T, x task) api.Errno {
	t.Helper()
	l, circle, e := profile.Enclosure(x.zones, x.l)
	none(t, e, l == nil)
	if (circle != nil) != (e == api.ErrClash) {
		t.Error("a circle", circle, e)
	}
	pair, e2 := profile.Widest(x.zones, x.l)
	none(t, e2, pair == [2]int{})
	return agree(t, e, e2, reachingError(t, x), gainError(t, x))
}

func addError(t *testing.T, x task) api.Errno {
	t.Helper()
	l, e := profile.AddReading(x.zones, x.l, x.r)
	none(t, e, l == nil)
	if e == api.OK && !slices.Equal(l, append(slices.Clone(x.l), x.r)) {
		t.Error("not one more behind them", x, l)
	}
	return e
}

func gainError(t *testing.T, x task) api.Errno {
	t.Helper()
	n, e := profile.Gain(x.zones, x.l, x.r)
	none(t, e, n == 0)
	return e
}

func betweenError(t *testing.T, x task) api.Errno {
	t.Helper()
	r, e := profile.Between(x.zones, x.l, x.pair)
	none(t, e, r == api.Range{})
	return e
}

func reachingError(t *testing.T, x task) api.Errno {
	t.Helper()
	l, e := profile.Reaching(x.zones, x.l, x.pair)
	none(t, e, l == nil)
	return e
}

// faultsOf are the faults of a reading of three zones.
func faultsOf(r func(x *task) *api.HeightReading) []fault[task] {
	return slices.Concat(
		numberFaults(func(x *task) *int { return &r(x).From }, 0, 2, api.ErrMissing),
		numberFaults(func(x *task) *int { return &r(x).To }, 0, 2, api.ErrMissing),
		[]fault[task]{
			{func(x *task) { r(x).From = r(x).To }, api.ErrForm},
			{func(x *task) { r(x).To = r(x).From }, api.ErrForm},
		},
		numberFaults(func(x *task) *int { return &r(x).Diff.Lo }, -1000000, 1000000, api.ErrRange),
		numberFaults(func(x *task) *int { return &r(x).Diff.Hi }, -1000000, 1000000, api.ErrRange),
		[]fault[task]{
			{func(x *task) { r(x).Diff = span(8, 7) }, api.ErrOrder},
			{func(x *task) { r(x).Diff = span(1000000, -1000000) }, api.ErrOrder},
		},
	)
}

// readingFaults are the faults of zones and readings.
func readingFaults() []fault[task] {
	l := slices.Concat(
		numberFaults(func(x *task) *int { return &x.zones }, 1, 40, api.ErrRange),
		[]fault[task]{{func(x *task) { x.l = slices.Grow(x.l, 98)[:101] }, api.ErrLarge}},
	)
	for i := range 3 {
		l = append(l, faultsOf(func(x *task) *api.HeightReading { return &x.l[i] })...)
	}
	return l
}

func TestP5_2Faults(t *testing.T) {
	checkFaults(t, validTask, readingsError, readingFaults())
	for _, x := range []struct {
		zones int
		l     []api.HeightReading
		want  api.Errno
	}{
		{3, []api.HeightReading{reading(1, 1, 0, 0)}, api.ErrForm},
		{3, []api.HeightReading{reading(0, 0, 0, 0)}, api.ErrForm},
		{3, []api.HeightReading{reading(3, 3, 0, 0)}, api.ErrMissing},
		{3, []api.HeightReading{reading(-1, -1, 0, 0)}, api.ErrMissing},
		{3, []api.HeightReading{reading(1, 1, 1000001, 0)}, api.ErrForm},
		{3, []api.HeightReading{reading(1, 1, 0, -1000001)}, api.ErrForm},
		{3, []api.HeightReading{reading(1, 1, 1, 0)}, api.ErrForm},
		{3, []api.HeightReading{reading(1, 2, 1, 0), reading(1, 1, 0, 0)}, api.ErrOrder},
		{3, []api.HeightReading{reading(1, 2, 0, 1), reading(2, 2, 0, 0), reading(1, 3, 0, 0)}, api.ErrForm},
		{1, []api.HeightReading{reading(0, 0, 0, 0)}, api.ErrForm},
		{1, []api.HeightReading{reading(0, 1, 0, 0)}, api.ErrMissing},
		{0, []api.HeightReading{reading(0, 1, 0, 0)}, api.ErrRange},
		{41, make([]api.HeightReading, 101), api.ErrRange},
		{40, make([]api.HeightReading, 101), api.ErrLarge},
		{40, make([]api.HeightReading, 100), api.ErrForm},
	} {
		y := task{zones: x.zones, l: x.l, heights: make([]int, max(0, min(50, x.zones))), circle: []int{1}}
		if e := readingsError(t, y); e != x.want {
			t.Error(x, e)
		}
	}
}

func TestP5_2Limits(t *testing.T) {
	isValid := func(t *testing.T, x task) api.Errno { return profile.CheckReadings(x.zones, x.l) }
	for _, x := range []struct {
		field       func(x *task) *int
		least, most int
	}{
		{func(x *task) *int { return &x.zones }, 3, 40},
		{func(x *task) *int { return &x.l[1].From }, 0, 1},
		{func(x *task) *int { return &x.l[0].To }, 1, 2},
		{func(x *task) *int { return &x.l[0].Diff.Lo }, -1000000, 70},
		{func(x *task) *int { return &x.l[0].Diff.Hi }, 50, 1000000},
	} {
		checkLimits(t, validTask, isValid, x.field, x.least, x.most)
	}
	most := slices.Repeat([]api.HeightReading{reading(39, 0, -1000000, 1000000), reading(0, 39, 1000000, 1000000), reading(1, 39, -1000000, -1000000)}, 33)
	for _, x := range []task{{zones: 1}, {zones: 40}, {zones: 40, l: most}, {zones: 40, l: append(most, most[0])}} {
		if e := isValid(t, x); e != api.OK {
			t.Error(x, e)
		}
	}
}

func TestP5_2AddReading(t *testing.T) {
	checkFaults(t, validTask, addError, slices.Concat(
		readingFaults(),
		[]fault[task]{
			{clash, api.ErrClash},
			{func(x *task) { x.l = append(x.l, slices.Repeat(x.l[:1], 97)...) }, api.ErrLarge},
		},
		faultsOf(func(x *task) *api.HeightReading { return &x.r }),
		[]fault[task]{
			{func(x *task) { x.r = reading(0, 1, 80, 90) }, api.ErrClash},
			{func(x *task) { x.r = reading(1, 0, -49, -49) }, api.ErrClash},
		},
	))
	// a contradiction among those that are there comes before any error of one more
	x := validTask()
	clash(&x)
	for _, r := range []api.HeightReading{reading(0, 0, 0, 0), reading(3, 0, 0, 0), reading(0, 1, 1, 0), reading(0, 1, 0, 1000001)} {
		x.r = r
		if e := addError(t, x); e != api.ErrClash {
			t.Error(r, e)
		}
	}
	// zones need no ways, and 100 readings may be made by one more
	for _, x := range []task{
		{zones: 3, r: reading(1, 2, 5, 6)},
		{zones: 4, l: chapterReadings()[:1], r: reading(2, 3, 5, 6)},
		{zones: 3, l: slices.Repeat(chapterReadings()[:1], 99), r: reading(0, 1, 60, 60)},
	} {
		if e := addError(t, x); e != api.OK {
			t.Error(x, e)
		}
	}
	for _, r := range []api.HeightReading{reading(2, 0, 1, 1), reading(2, 2, 0, 0)} {
		x := task{zones: 3, l: slices.Repeat(chapterReadings()[:1], 100), r: r}
		if e := addError(t, x); e != api.ErrLarge {
			t.Error(e)
		}
	}
	if e := addError(t, task{zones: 1, r: reading(0, 0, 0, 0)}); e != api.ErrForm {
		t.Error(e)
	}
}

func TestP5_2Heights(t *testing.T) {
	errorOf := func(t *testing.T, x task) api.Errno {
		n, e := profile.CheckHeights(x.zones, x.l, x.heights)
		none(t, e, n == 0)
		return e
	}
	checkFaults(t, validTask, errorOf, slices.Concat(
		readingFaults(),
		[]fault[task]{
			{func(x *task) { x.heights = nil }, api.ErrShape},
			{func(x *task) { x.heights = x.heights[:2] }, api.ErrShape},
			{func(x *task) { x.heights = append(x.heights, 0) }, api.ErrShape},
		},
	))
	for i := range 3 {
		checkFaults(t, validTask, errorOf, numberFaults(func(x *task) *int { return &x.heights[i] }, -100000000, 100000000, api.ErrRange))
	}
	// a contradiction, or zones without a way, are no error of heights
	for _, x := range []struct {
		l       []api.HeightReading
		heights []int
		n       int
		want    api.Errno
	}{
		{chapterReadings(), []int{0, 50, 45}, 0, api.OK},
		{chapterReadings(), []int{0, 70, 70}, 0, api.OK},
		{chapterReadings(), []int{100000000, 99999999, 3}, 0, api.ErrBreak},
		{chapterReadings(), []int{-100000000, -99999940, -99999950}, 0, api.OK},
		{chapterReadings(), []int{99999930, 100000000, 100000000}, 0, api.OK},
		{chapterReadings(), []int{0, 49, 47}, 0, api.ErrBreak},
		{chapterReadings(), []int{0, 71, 70}, 0, api.ErrBreak},
		{chapterReadings(), []int{0, 71, 44}, 0, api.ErrBreak},
		{chapterReadings(), []int{0, 60, 61}, 1, api.ErrBreak},
		{chapterReadings(), []int{0, 70, 49}, 1, api.ErrBreak},
		{chapterReadings(), []int{0, 70, 91}, 1, api.ErrBreak},
		{chapterReadings(), []int{0, 60, 44}, 2, api.ErrBreak},
		{clashingReadings(), []int{0, 70, 70}, 2, api.ErrBreak},
		{[]api.HeightReading{reading(0, 1, 3, 3)}, []int{2, 5, 100}, 0, api.OK},
		{[]api.HeightReading{reading(2, 1, 3, 4)}, []int{-100000000, 8, 4}, 0, api.OK},
		{[]api.HeightReading{reading(2, 1, 3, 4)}, []int{0, 8, 3}, 0, api.ErrBreak},
		{nil, []int{100000000, -100000000, 0}, 0, api.OK},
		{[]api.HeightReading{reading(0, 1, -1000000, 1000000)}, []int{100000000, -100000000, 0}, 0, api.ErrBreak},
	} {
		if n, e := profile.CheckHeights(3, x.l, x.heights); n != x.n || e != x.want {
			t.Error(x, n, e)
		}
	}
	if n, e := profile.CheckHeights(1, nil, []int{5}); n != 0 || e != api.OK {
		t.Error(n, e)
	}
	if n, e := profile.CheckHeights(3, chapterReadings(), []int{0, 1, math.MinInt}); n != 0 || e != api.ErrRange {
		t.Error("a range comes before what is broken", n, e)
	}
}

// someReadings are readings near heights, so that they seldom contradict each other if slip is 0, and often otherwise.
// Zones are joined one after the other if joined, and by more readings.
func someReadings(random *rand.Rand, zones, width, slip int, isJoined bool) []api.HeightReading {
	var l []api.HeightReading
	heights := someHeights(random, zones, width)
	add := func(from, to int) {
		diff := heights[to] - heights[from] + random.IntN(2*slip+1) - slip
		lo, hi := diff-random.IntN(width), diff+random.IntN(width)
		if random.IntN(2) == 0 {
			from, to, lo, hi = to, from, -hi, -lo
		}
		l = append(l, reading(from, to, lo, hi))
	}
	for zone := 1; zone < zones && isJoined; zone++ {
		add(random.IntN(zone), zone)
	}
	for range random.IntN(zones + 3) {
		if from, to := random.IntN(zones), random.IntN(zones); from != to {
			add(from, to)
		}
	}
	random.Shuffle(len(l), func(i, j int) { l[i], l[j] = l[j], l[i] })
	return l
}

func someHeights(random *rand.Rand, zones, width int) []int {
	var l []int
	for range zones {
		l = append(l, random.IntN(2*width+1)-width)
	}
	return l
}

func TestP5_2ByDefinition(t *testing.T) {
	random := rand.New(rand.NewPCG(5, 2))
	counts := map[int]int{}
	for range 20000 {
		zones, width := 2+random.IntN(4), []int{3, 10, 300000}[random.IntN(3)]
		l := someReadings(random, zones, width, width/3, random.IntN(2) == 0)
		heights := someHeights(random, zones, width)
		broken, want := slices.IndexFunc(l, func(r api.HeightReading) bool {
			return heights[r.To]-heights[r.From] < r.Diff.Lo || heights[r.To]-heights[r.From] > r.Diff.Hi
		}), api.ErrBreak
		counts[min(broken, 2)]++
		if broken < 0 {
			broken, want = 0, api.OK
		}
		if n, e := profile.CheckHeights(zones, l, heights); n != broken || e != want {
			t.Fatal(zones, l, heights, n, e)
		}
	}
	for i := -1; i <= 2; i++ {
		if counts[i] < 500 {
			t.Error("too few of a kind", counts)
		}
	}
}

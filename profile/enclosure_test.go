package profile_test

import (
	"math"
	"math/rand/v2"
	"slices"
	"testing"

	"speculum/api"
	"speculum/profile"
)

const far = 1 << 50 // the sum of a way that is not there

// leastSums is D of each two zones, by taking one zone after the other as one between them. It reports false if readings
// contradict each other.
func leastSums(zones int, l []api.HeightReading) ([][]int, bool) {
	d := make([][]int, zones)
	for a := range zones {
		d[a] = slices.Repeat([]int{far}, zones)
		d[a][a] = 0
	}
	for _, r := range l {
		d[r.From][r.To] = min(d[r.From][r.To], r.Diff.Hi)
		d[r.To][r.From] = min(d[r.To][r.From], -r.Diff.Lo)
	}
	for m := range zones {
		for a := range zones {
			for b := range zones {
				if d[a][m] < far && d[m][b] < far { // sums of contradictions must not overflow
					d[a][b] = min(d[a][b], max(d[a][m]+d[m][b], -far))
				}
			}
		}
	}
	for a := range zones {
		if d[a][a] < 0 {
			return nil, false
		}
	}
	return d, true
}

// expected is D of each two zones, and the error of readings that are valid.
func expected(zones int, l []api.HeightReading) ([][]int, api.Errno) {
	d, ok := leastSums(zones, l)
	if !ok {
		return nil, api.ErrClash
	}
	if slices.Contains(d[0], far) {
		return d, api.ErrOpen
	}
	return d, api.OK
}

// ranges is the enclosure that sums make.
func ranges(d [][]int) []api.Range {
	var l []api.Range
	for zone := range d {
		l = append(l, span(-d[zone][0], d[0][zone]))
	}
	return l
}

// checkCircle checks by the definitions alone that a circle proves a contradiction.
func checkCircle(t *testing.T, zones int, l []api.HeightReading, circle []int) {
	t.Helper()
	if len(circle) < 1 || len(circle) > zones {
		t.Fatal("a circle of another length", zones, l, circle)
	}
	sum, begin, at := 0, -1, -1
	for _, n := range circle {
		if n == 0 || n > len(l) || n < -len(l) {
			t.Fatal("no signed reading", l, circle)
		}
		r := l[max(n, -n)-1]
		from, to, length := r.From, r.To, r.Diff.Hi
		if n < 0 {
			from, to, length = r.To, r.From, -r.Diff.Lo
		}
		if begin < 0 {
			begin, at = from, from
		}
		if from != at {
			t.Fatal("no circle", l, circle)
		}
		sum, at = sum+length, to
	}
	if at != begin || sum >= 0 {
		t.Fatal("no proof", l, circle, sum)
	}
	if n, e := profile.CheckClash(zones, l, circle); n != sum || e != api.OK {
		t.Fatal(l, circle, sum, n, e)
	}
}

// checkEnclosure checks the enclosure of readings, or the circle that refuses them, and returns the error.
func checkEnclosure(t *testing.T, zones int, l []api.HeightReading) api.Errno {
	t.Helper()
	d, want := expected(zones, l)
	x, circle, e := profile.Enclosure(zones, l)
	if e != want || (x != nil) != (e == api.OK) || (circle != nil) != (e == api.ErrClash) {
		t.Fatal(zones, l, x, circle, e, want)
	}
	if e == api.ErrClash {
		checkCircle(t, zones, l, circle)
	}
	if e == api.OK && !slices.Equal(x, ranges(d)) {
		t.Fatal(zones, l, x, ranges(d))
	}
	return e
}

// joinedFaults are those of readings, with the errors behind them.
func joinedFaults() []fault[task] {
	return append(readingFaults(), fault[task]{clash, api.ErrClash}, fault[task]{open, api.ErrOpen})
}

func TestP5_3Enclosure(t *testing.T) {
	checkFaults(t, validTask, joinedError, joinedFaults())
	for _, x := range []struct {
		zones int
		l     []api.HeightReading
		want  []api.Range
		e     api.Errno
	}{
		{3, chapterReadings(), []api.Range{{}, span(50, 70), span(45, 70)}, api.OK},
		{3, chapterReadings()[:2], []api.Range{{}, span(50, 70), span(30, 70)}, api.OK},
		{3, []api.HeightReading{reading(0, 1, 50, 70), reading(0, 2, 45, 90)}, []api.Range{{}, span(50, 70), span(45, 90)}, api.OK},
		{3, clashingReadings(), nil, api.ErrClash},
		{1, nil, []api.Range{{}}, api.OK},
		{2, nil, nil, api.ErrOpen},
		{4, chapterReadings(), nil, api.ErrOpen},
		{40, chapterReadings(), nil, api.ErrOpen},
		{3, chapterReadings()[:1], nil, api.ErrOpen},
		{4, clashingReadings(), nil, api.ErrClash},
		{2, []api.HeightReading{reading(1, 0, -7, -3)}, []api.Range{{}, span(3, 7)}, api.OK},
		{2, []api.HeightReading{reading(0, 1, 5, 5), reading(1, 0, -5, -5)}, []api.Range{{}, span(5, 5)}, api.OK},
		{2, []api.HeightReading{reading(0, 1, 5, 5), reading(1, 0, -4, -4)}, nil, api.ErrClash},
		{2, []api.HeightReading{reading(0, 1, 5, 5), reading(0, 1, 6, 7)}, nil, api.ErrClash},
		{2, []api.HeightReading{reading(0, 1, 5, 6), reading(0, 1, 6, 7)}, []api.Range{{}, span(6, 6)}, api.OK},
		// zones that contradict each other need no way from zone 0
		{4, []api.HeightReading{reading(0, 1, 0, 0), reading(2, 3, 5, 5), reading(3, 2, -4, -4)}, nil, api.ErrClash},
		{3, []api.HeightReading{reading(1, 2, 5, 5), reading(1, 2, 6, 6)}, nil, api.ErrClash},
		{4, []api.HeightReading{reading(0, 1, 0, 0), reading(2, 3, 5, 5), reading(3, 2, -5, -4)}, nil, api.ErrOpen},
	} {
		if ranges, _, e := profile.Enclosure(x.zones, x.l); !slices.Equal(ranges, x.want) || e != x.e {
			t.Error(x, ranges, e)
		}
		checkEnclosure(t, x.zones, x.l)
	}
	// one reading less or more by 1 decides
	l := clashingReadings()
	for lo, want := range map[int]api.Errno{69: api.OK, 70: api.OK, 71: api.ErrClash} {
		l[2].Diff.Lo = lo
		if e := checkEnclosure(t, 3, l); e != want {
			t.Error(lo, e)
		}
	}
}

func TestP5_3LongWays(t *testing.T) {
	var up, round []api.HeightReading
	for zone := range 39 {
		up = append(up, reading(zone, zone+1, 999999, 1000000))
		round = append(round, reading(zone+1, zone, -zone, -zone))
	}
	x, _, e := profile.Enclosure(40, up)
	for zone, r := range x {
		if r != span(zone*999999, zone*1000000) {
			t.Error(zone, r)
		}
	}
	if len(x) != 40 || e != api.OK {
		t.Error(x, e)
	}
	// the readings the other way round, so that a round finds one zone more only
	slices.Reverse(up)
	checkEnclosure(t, 40, up)
	// a circle through all zones: 741 up
	for _, more := range []api.HeightReading{reading(0, 39, 741, 741), reading(0, 39, 742, 742), reading(39, 0, -740, -740)} {
		for range 2 {
			l := append(slices.Clone(round), more)
			want := api.ErrClash
			if more.Diff.Lo == 741 {
				want = api.OK
			}
			if e := checkEnclosure(t, 40, l); e != want {
				t.Error(more, e)
			}
			if _, circle, _ := profile.Enclosure(40, l); want != api.OK && len(circle) != 40 {
				t.Error(circle)
			}
			slices.Reverse(round)
		}
	}
}

func TestP5_3AgainstReference(t *testing.T) {
	random := rand.New(rand.NewPCG(5, 3))
	counts := map[api.Errno]int{}
	for range 6000 {
		zones := 1 + random.IntN([]int{4, 10, 40}[random.IntN(3)])
		width := []int{2, 20, 250000}[random.IntN(3)]
		l := someReadings(random, zones, width, random.IntN(2)*random.IntN(width), random.IntN(4) > 0)
		counts[checkEnclosure(t, zones, l)]++
	}
	for _, e := range []api.Errno{api.OK, api.ErrClash, api.ErrOpen} {
		if counts[e] < 500 {
			t.Error("too few of a kind", counts)
		}
	}
}

// fewReadings are any readings with ends up to 3 in size.
func fewReadings(random *rand.Rand, zones int) []api.HeightReading {
	var l []api.HeightReading
	for range random.IntN(7) {
		from, lo := random.IntN(zones), random.IntN(7)-3
		to := (from + 1 + random.IntN(zones-1)) % zones
		l = append(l, reading(from, to, lo, lo+random.IntN(4-lo)))
	}
	return l
}

// allHeights are all heights up to a size, with 0 for zone 0.
func allHeights(zones, most int) [][]int {
	l := [][]int{{0}}
	for range zones - 1 {
		var longer [][]int
		for _, heights := range l {
			for n := -most; n <= most; n++ {
				longer = append(longer, append(slices.Clone(heights), n))
			}
		}
		l = longer
	}
	return l
}

func keeps(heights []int, r api.HeightReading) bool {
	diff := heights[r.To] - heights[r.From]
	return r.Diff.Lo <= diff && diff <= r.Diff.Hi
}

// kept are the heights that keep all readings.
func kept(all [][]int, l []api.HeightReading) [][]int {
	var some [][]int
	for _, heights := range all {
		if !slices.ContainsFunc(l, func(r api.HeightReading) bool { return !keeps(heights, r) }) {
			some = append(some, heights)
		}
	}
	return some
}

// TestP5_3ByTrial tries all heights of few zones: readings whose ends are up to 3 allow none that are higher than 3 times
// the number of the others, but for zones without ways.
func TestP5_3ByTrial(t *testing.T) {
	random := rand.New(rand.NewPCG(3, 5))
	counts := map[api.Errno]int{}
	for range 900 {
		zones := 2 + random.IntN(3)
		l := fewReadings(random, zones)
		some := kept(allHeights(zones, 3*(zones-1)), l)
		e := checkEnclosure(t, zones, l)
		counts[e]++
		if (e == api.ErrClash) != (len(some) == 0) {
			t.Fatal(zones, l, e)
		}
		if e != api.OK {
			continue
		}
		x, _, _ := profile.Enclosure(zones, l)
		for zone, r := range x {
			var of []int
			for _, heights := range some {
				of = append(of, heights[zone])
			}
			if r != span(slices.Min(of), slices.Max(of)) {
				t.Fatal(zones, l, x, zone)
			}
		}
	}
	for _, e := range []api.Errno{api.OK, api.ErrClash, api.ErrOpen} {
		if counts[e] < 100 {
			t.Error("too few of a kind", counts)
		}
	}
}

func TestP5_3CheckClash(t *testing.T) {
	errorOf := func(t *testing.T, x task) api.Errno {
		n, e := profile.CheckClash(x.zones, x.l, x.circle)
		none(t, e, n == 0)
		return e
	}
	valid := func() task { return task{zones: 3, l: clashingReadings(), circle: []int{1, 2, -3}} }
	checkFaults(t, valid, errorOf, slices.Concat(
		readingFaults(),
		[]fault[task]{
			{func(x *task) { x.circle = nil }, api.ErrShape},
			{func(x *task) { x.circle = append(slices.Repeat([]int{1, 2, -3}, 13), 9, 1) }, api.ErrShape},
			{func(x *task) { x.circle = []int{1, 0, 2, -3} }, api.ErrMissing},
			{func(x *task) { x.circle = []int{1, 2, -3, 4} }, api.ErrMissing},
			{func(x *task) { x.circle = []int{1, 2, -3, -4} }, api.ErrMissing},
			{func(x *task) { x.circle = []int{1, 1, math.MinInt} }, api.ErrMissing},
			{func(x *task) { x.circle = []int{math.MaxInt, 2, -3} }, api.ErrMissing},
			{func(x *task) { x.circle = []int{1, 2} }, api.ErrOpen},
			{func(x *task) { x.circle = []int{1} }, api.ErrOpen},
			{func(x *task) { x.circle = []int{-3} }, api.ErrOpen},
			{func(x *task) { x.circle = []int{1, -3, 2} }, api.ErrOpen},
			{func(x *task) { x.circle = []int{1, 2, 3} }, api.ErrOpen},
			{func(x *task) { x.circle = []int{1, 2, -3, 1} }, api.ErrOpen},
			{func(x *task) { x.circle = []int{-2, 1, 2, -3} }, api.ErrOpen},
			{func(x *task) { x.circle = []int{3, -2, -1} }, api.ErrProof}, // the other way round: 90 + 20 - 50
			{func(x *task) { x.circle = []int{1, -1} }, api.ErrProof},
			{func(x *task) { x.circle = []int{-1, 1} }, api.ErrProof},
		},
	))
	two := func(lo int) []api.HeightReading {
		return []api.HeightReading{reading(0, 1, 50, 70), reading(0, 1, lo, 90)}
	}
	for _, x := range []struct {
		l      []api.HeightReading
		circle []int
		sum    int
		want   api.Errno
	}{
		{clashingReadings(), []int{1, 2, -3}, -10, api.OK},
		{clashingReadings(), []int{2, -3, 1}, -10, api.OK},
		{clashingReadings(), []int{-3, 1, 2}, -10, api.OK},
		{clashingReadings(), []int{1, 2, -3, 1, 2, -3}, -20, api.OK},
		{clashingReadings(), []int{1, -1, 1, 2, -3, 1, 2, -3}, 0, api.ErrProof},
		{clashingReadings(), []int{1, 2, -2, 2, -3, 1, 2, -3, 1, 2, -3}, -10, api.OK},
		{two(71), []int{1, -2}, -1, api.OK},
		{two(70), []int{1, -2}, 0, api.ErrProof},
		{two(69), []int{1, -2}, 0, api.ErrProof},
		{two(71), []int{-2, 1}, -1, api.OK},
		{two(71), []int{2, -1}, 0, api.ErrProof},
		{two(71), slices.Repeat([]int{1, -2}, 20), -20, api.OK},
		{two(71), append(slices.Repeat([]int{1, -2}, 19), 1, -2, 1), 0, api.ErrShape},
		{two(71), slices.Repeat([]int{1, -2}, 21), 0, api.ErrShape},
		{two(71), []int{3, -2}, 0, api.ErrMissing},
		{two(71), []int{1, -3}, 0, api.ErrMissing},
		{nil, []int{1}, 0, api.ErrMissing},
		{nil, nil, 0, api.ErrShape},
	} {
		if n, e := profile.CheckClash(3, x.l, x.circle); n != x.sum || e != x.want {
			t.Error(x, n, e)
		}
	}
}

func TestP5_4Faults(t *testing.T) {
	zones := slices.Concat(
		numberFaults(func(x *task) *int { return &x.pair[0] }, 0, 2, api.ErrMissing),
		numberFaults(func(x *task) *int { return &x.pair[1] }, 0, 2, api.ErrMissing),
	)
	checkFaults(t, validTask, betweenError, slices.Concat(readingFaults(), zones, joinedFaults()[len(readingFaults()):]))
	checkFaults(t, validTask, reachingError, slices.Concat(readingFaults(), zones, joinedFaults()[len(readingFaults()):]))
	checkFaults(t, validTask, joinedError, joinedFaults())
}

func TestP5_4Between(t *testing.T) {
	apart := []api.HeightReading{reading(0, 1, 3, 5), reading(3, 2, 4, 7)} // two of two zones, and zone 4 alone
	contrary := append(slices.Clone(apart), reading(2, 3, -3, 3))
	for _, x := range []struct {
		l    []api.HeightReading
		pair [2]int
		want api.Range
		e    api.Errno
	}{
		{chapterReadings(), [2]int{1, 2}, span(-20, 0), api.OK},
		{chapterReadings(), [2]int{2, 1}, span(0, 20), api.OK},
		{chapterReadings(), [2]int{0, 2}, span(45, 70), api.OK},
		{chapterReadings(), [2]int{2, 0}, span(-70, -45), api.OK},
		{chapterReadings(), [2]int{0, 1}, span(50, 70), api.OK},
		{chapterReadings(), [2]int{2, 2}, span(0, 0), api.OK},
		{chapterReadings(), [2]int{0, 4}, span(0, 0), api.ErrOpen},
		{apart, [2]int{0, 1}, span(3, 5), api.OK},
		{apart, [2]int{1, 0}, span(-5, -3), api.OK},
		{apart, [2]int{2, 3}, span(-7, -4), api.OK},
		{apart, [2]int{3, 2}, span(4, 7), api.OK},
		{apart, [2]int{4, 4}, span(0, 0), api.OK},
		{apart, [2]int{0, 2}, span(0, 0), api.ErrOpen},
		{apart, [2]int{2, 0}, span(0, 0), api.ErrOpen},
		{apart, [2]int{4, 0}, span(0, 0), api.ErrOpen},
		{contrary, [2]int{0, 1}, span(0, 0), api.ErrClash},
		{contrary, [2]int{0, 0}, span(0, 0), api.ErrClash},
		{contrary, [2]int{4, 0}, span(0, 0), api.ErrClash},
		{contrary, [2]int{0, 5}, span(0, 0), api.ErrMissing},
		{contrary, [2]int{-1, 1}, span(0, 0), api.ErrMissing},
		{append(slices.Clone(apart), reading(2, 3, -4, 3)), [2]int{2, 3}, span(-4, -4), api.OK},
	} {
		if r, e := profile.Between(5, x.l, x.pair); r != x.want || e != x.e {
			t.Error(x, r, e)
		}
	}
	if r, e := profile.Between(1, nil, [2]int{}); r != (api.Range{}) || e != api.OK {
		t.Error(r, e)
	}
}

func TestP5_4Reaching(t *testing.T) {
	for _, x := range []struct {
		pair [2]int
		want []int
	}{
		{[2]int{0, 2}, []int{0, 70, 70}}, {[2]int{0, 1}, []int{0, 70, 70}}, {[2]int{0, 0}, []int{0, 70, 70}}, {[2]int{1, 2}, []int{0, 50, 50}}, {[2]int{1, 1}, []int{0, 50, 50}},
		{[2]int{2, 0}, []int{0, 65, 45}}, {[2]int{2, 1}, []int{0, 65, 45}},
	} {
		if l, e := profile.Reaching(3, chapterReadings(), x.pair); !slices.Equal(l, x.want) || e != api.OK {
			t.Error(x, l, e)
		}
	}
	if l, e := profile.Reaching(1, nil, [2]int{}); !slices.Equal(l, []int{0}) || e != api.OK {
		t.Error(l, e)
	}
}

func TestP5_4Widest(t *testing.T) {
	for _, x := range []struct {
		zones int
		l     []api.HeightReading
		want  [2]int
		e     api.Errno
	}{
		{3, chapterReadings(), [2]int{0, 2}, api.OK},
		{3, chapterReadings()[:2], [2]int{0, 2}, api.OK},
		{3, clashingReadings(), [2]int{}, api.ErrClash},
		{4, chapterReadings(), [2]int{}, api.ErrOpen},
		{2, nil, [2]int{}, api.ErrOpen},
		{1, nil, [2]int{}, api.ErrNone},
		{2, []api.HeightReading{reading(1, 0, 5, 5)}, [2]int{0, 1}, api.OK},
		// all are equally wide
		{3, []api.HeightReading{reading(0, 1, 5, 5), reading(2, 1, 7, 7)}, [2]int{0, 1}, api.OK},
		{3, []api.HeightReading{reading(0, 1, 0, 9), reading(2, 1, 7, 7)}, [2]int{0, 1}, api.OK},
		{3, []api.HeightReading{reading(0, 1, 5, 5), reading(2, 1, 0, 7)}, [2]int{0, 2}, api.OK},
		{3, []api.HeightReading{reading(0, 2, 5, 5), reading(2, 1, 0, 7)}, [2]int{0, 1}, api.OK},
		{4, []api.HeightReading{reading(0, 1, 5, 6), reading(0, 2, 5, 5), reading(3, 2, 7, 7)}, [2]int{0, 1}, api.OK},
		{4, []api.HeightReading{reading(0, 1, 0, 9), reading(0, 2, 0, 10), reading(0, 3, 0, 1)}, [2]int{1, 2}, api.OK},
		{4, []api.HeightReading{reading(0, 1, 0, 9), reading(0, 2, 0, 1), reading(3, 0, 0, 10)}, [2]int{1, 3}, api.OK},
		{4, []api.HeightReading{reading(0, 1, 0, 9), reading(0, 2, 0, 9), reading(3, 0, 0, 9)}, [2]int{1, 2}, api.OK},
	} {
		if pair, e := profile.Widest(x.zones, x.l); pair != x.want || e != x.e {
			t.Error(x, pair, e)
		}
	}
}

func TestP5_4AgainstReference(t *testing.T) {
	random := rand.New(rand.NewPCG(5, 4))
	counts := map[api.Errno]int{}
	for range 3000 {
		zones := 2 + random.IntN([]int{3, 8, 39}[random.IntN(3)])
		width := []int{2, 20, 250000}[random.IntN(3)]
		l := someReadings(random, zones, width, random.IntN(2)*random.IntN(width), random.IntN(4) > 0)
		pair := [2]int{random.IntN(zones), random.IntN(zones)}
		d, want := expected(zones, l)
		counts[want]++
		r, e := profile.Between(zones, l, pair)
		switch {
		case want == api.ErrClash:
			if r != (api.Range{}) || e != want {
				t.Fatal(zones, l, pair, r, e)
			}
		case d[pair[0]][pair[1]] == far:
			if r != (api.Range{}) || e != api.ErrOpen {
				t.Fatal(zones, l, pair, r, e)
			}
		case r != span(-d[pair[1]][pair[0]], d[pair[0]][pair[1]]) || e != api.OK:
			t.Fatal(zones, l, pair, r, e)
		}
		heights, e2 := profile.Reaching(zones, l, pair)
		widest, e3 := profile.Widest(zones, l)
		if e2 != want || e3 != want {
			t.Fatal(zones, l, e2, e3, want)
		}
		if want == api.OK {
			checkReaching(t, zones, l, pair, heights, d)
			checkWidest(t, zones, l, widest, d)
		}
	}
	for _, e := range []api.Errno{api.OK, api.ErrClash, api.ErrOpen} {
		if counts[e] < 200 {
			t.Error("too few of a kind", counts)
		}
	}
}

func checkReaching(t *testing.T, zones int, l []api.HeightReading, pair [2]int, heights []int, d [][]int) {
	t.Helper()
	for zone, height := range heights {
		if height != d[pair[0]][zone]-d[pair[0]][0] {
			t.Fatal(zones, l, pair, heights)
		}
	}
	if len(heights) != zones || heights[0] != 0 || heights[pair[1]]-heights[pair[0]] != d[pair[0]][pair[1]] {
		t.Fatal(zones, l, pair, heights)
	}
	if n, e := profile.CheckHeights(zones, l, heights); n != 0 || e != api.OK {
		t.Fatal(zones, l, pair, heights, n, e)
	}
}

func checkWidest(t *testing.T, zones int, l []api.HeightReading, widest [2]int, d [][]int) {
	t.Helper()
	width := func(a, b int) int { return d[a][b] + d[b][a] }
	first, most := [2]int{0, 1}, width(0, 1)
	for a := range zones {
		for b := range zones {
			if a < b && width(a, b) > most {
				first, most = [2]int{a, b}, width(a, b)
			}
		}
	}
	if widest != first {
		t.Fatal(zones, l, widest, first)
	}
}

func TestP5_5Needless(t *testing.T) {
	needlessError := func(t *testing.T, x task) api.Errno {
		l, e := profile.Needless(x.zones, x.l)
		none(t, e, l == nil)
		return e
	}
	checkFaults(t, validTask, needlessError, append(readingFaults(), fault[task]{clash, api.ErrClash}))
	for _, x := range []struct {
		zones int
		l     []api.HeightReading
		want  []int
	}{
		{3, chapterReadings(), nil},
		{3, append(chapterReadings(), chapterReadings()[0]), []int{3}},
		{3, append(chapterReadings(), chapterReadings()...), []int{3, 4, 5}},
		{3, append(chapterReadings()[:2], reading(0, 2, 30, 70)), []int{2}},
		{3, append(chapterReadings()[:2], reading(0, 2, 31, 70)), nil},
		{3, append(chapterReadings()[:2], reading(0, 2, 30, 69)), nil},
		{3, append(chapterReadings()[:2], reading(2, 0, -71, -29)), []int{2}},
		{3, append(chapterReadings()[:2], reading(2, 0, -70, -31)), nil},
		// the wider one goes, wherever it stands
		{2, []api.HeightReading{reading(0, 1, 0, 9), reading(0, 1, 1, 8)}, []int{0}},
		{2, []api.HeightReading{reading(0, 1, 1, 8), reading(0, 1, 0, 9)}, []int{1}},
		{2, []api.HeightReading{reading(0, 1, 1, 9), reading(0, 1, 0, 8)}, nil},
		{2, []api.HeightReading{reading(0, 1, 1, 9), reading(0, 1, 0, 8), reading(1, 0, -8, -1)}, []int{2}},
		{2, []api.HeightReading{reading(1, 0, -8, -1), reading(0, 1, 1, 9), reading(0, 1, 0, 8)}, []int{1, 2}},
		// round a circle of exact readings the last one goes, although the others could
		{3, []api.HeightReading{reading(0, 1, 2, 2), reading(1, 2, 3, 3), reading(2, 0, -5, -5)}, []int{2}},
		{3, []api.HeightReading{reading(0, 1, 2, 2), reading(2, 0, -5, -5), reading(2, 0, -5, -5), reading(1, 2, 3, 3)}, []int{2, 3}},
		// zones need no ways from zone 0
		{4, []api.HeightReading{reading(2, 3, 1, 1), reading(3, 2, -1, 5)}, []int{1}},
		{4, []api.HeightReading{reading(2, 3, -1000000, 1000000)}, nil},
		{5, nil, nil},
		{1, nil, nil},
	} {
		if l, e := profile.Needless(x.zones, x.l); !slices.Equal(l, x.want) || e != api.OK {
			t.Error(x, l, e)
		}
	}
	// an open map is no error
	x := validTask()
	open(&x)
	if l, e := profile.Needless(x.zones, x.l); !slices.Equal(l, []int{1, 2}) || e != api.OK {
		t.Error(l, e)
	}
}

// needlessByTrial is the needless readings, found by trying all heights.
func needlessByTrial(all [][]int, l []api.HeightReading) []int {
	var needless []int
	left := slices.Clone(l)
	for i := len(l) - 1; i >= 0; i-- {
		without := slices.Concat(left[:i], left[i+1:])
		if !slices.ContainsFunc(kept(all, without), func(heights []int) bool { return !keeps(heights, l[i]) }) {
			left, needless = without, append([]int{i}, needless...)
		}
	}
	return needless
}

func TestP5_5ByTrial(t *testing.T) {
	random := rand.New(rand.NewPCG(5, 5))
	some, clashes := 0, 0
	for range 1500 {
		zones := 2 + random.IntN(3)
		l := fewReadings(random, zones)
		x, e := profile.Needless(zones, l)
		if _, ok := leastSums(zones, l); !ok {
			if clashes++; x != nil || e != api.ErrClash {
				t.Fatal(zones, l, x, e)
			}
			continue
		}
		if want := needlessByTrial(allHeights(zones, 3*(zones-1)+1), l); !slices.Equal(x, want) || e != api.OK {
			t.Fatal(zones, l, x, e, want)
		}
		if len(x) > 0 {
			some++
		}
	}
	if some < 100 || clashes < 50 {
		t.Error("too few of a kind", some, clashes)
	}
}

// widthOf is the sum of the widths of an enclosure.
func widthOf(d [][]int) int {
	sum := 0
	for zone := range d {
		sum += d[0][zone] + d[zone][0]
	}
	return sum
}

func TestP5_5Gain(t *testing.T) {
	checkFaults(t, validTask, gainError, slices.Concat(
		joinedFaults(),
		[]fault[task]{{func(x *task) { x.l = append(x.l, slices.Repeat(x.l[:1], 97)...) }, api.ErrLarge}},
		faultsOf(func(x *task) *api.HeightReading { return &x.r }),
		[]fault[task]{{func(x *task) { x.r = reading(0, 1, 71, 90) }, api.ErrClash}},
	))
	for _, x := range []struct {
		r    api.HeightReading
		want int
	}{
		{reading(0, 2, 50, 60), 15}, {reading(2, 0, -60, -50), 15}, {reading(0, 2, 45, 70), 0}, {reading(0, 2, -1000000, 1000000), 0}, {reading(0, 1, 50, 69), 2},
		{reading(0, 1, 51, 70), 1}, {reading(0, 1, 70, 70), 25}, {reading(0, 1, 50, 50), 40}, {reading(1, 2, 0, 0), 5}, {reading(0, 2, 70, 70), 45},
	} {
		if n, e := profile.Gain(3, chapterReadings(), x.r); n != x.want || e != api.OK {
			t.Error(x, n, e)
		}
	}
	if n, e := profile.Gain(1, nil, reading(0, 0, 0, 0)); n != 0 || e != api.ErrForm {
		t.Error(n, e)
	}
}

func TestP5_5GainAgainstReference(t *testing.T) {
	random := rand.New(rand.NewPCG(55, 5))
	gains, clashes, opens := 0, 0, 0
	for range 3000 {
		zones, width := 2+random.IntN(9), []int{2, 20, 250000}[random.IntN(3)]
		l := someReadings(random, zones, width, random.IntN(3)/2, random.IntN(8) > 0)
		from := random.IntN(zones)
		lo := random.IntN(2*width) - width
		r := reading(from, (from+1+random.IntN(zones-1))%zones, lo, lo+random.IntN(width))
		before, want := expected(zones, l)
		gain := 0
		if want == api.OK {
			after, clash := expected(zones, append(slices.Clone(l), r))
			if want = clash; want == api.OK {
				gain = widthOf(before) - widthOf(after)
			}
		}
		if n, e := profile.Gain(zones, l, r); n != gain || e != want {
			t.Fatal(zones, l, r, n, e, gain, want)
		}
		switch {
		case want == api.ErrClash:
			clashes++
		case want == api.ErrOpen:
			opens++
		case gain > 0:
			gains++
		}
	}
	if gains < 300 || clashes < 300 || opens < 100 {
		t.Error("too few of a kind", gains, clashes, opens)
	}
}

func TestP5_10Enclosures(t *testing.T) {
	random := rand.New(rand.NewPCG(5, 10))
	inside, narrower, needless := 0, 0, 0
	for range 2000 {
		zones, width := 2+random.IntN(7), []int{2, 20, 250000}[random.IntN(3)]
		l := someReadings(random, zones, width, 0, true)
		x, _, e := profile.Enclosure(zones, l)
		if e != api.OK {
			t.Fatal(zones, l, e)
		}
		var lows, highs []int
		for _, r := range x {
			lows, highs = append(lows, r.Lo), append(highs, r.Hi)
		}
		for _, heights := range [][]int{lows, highs} {
			if n, e := profile.CheckHeights(zones, l, heights); n != 0 || e != api.OK {
				t.Fatal(zones, l, heights, n, e)
			}
		}
		for range 20 { // between two profiles that keep all, and anywhere near them
			heights, more := slices.Clone(lows), random.IntN(width)
			for zone := range heights {
				heights[zone] += more + random.IntN(highs[zone]-lows[zone]+1)
			}
			if _, e := profile.CheckHeights(zones, l, heights); e != api.OK {
				continue
			}
			inside++
			for zone, height := range heights {
				if height-heights[0] < x[zone].Lo || height-heights[0] > x[zone].Hi {
					t.Fatal(zones, l, x, heights)
				}
			}
		}
		from := random.IntN(zones)
		r := reading(from, (from+1)%zones, -random.IntN(width), random.IntN(width))
		if more, e := profile.AddReading(zones, l, r); e == api.OK {
			y, _, _ := profile.Enclosure(zones, more)
			for zone := range y {
				if y[zone].Lo < x[zone].Lo || y[zone].Hi > x[zone].Hi {
					t.Fatal("wider", zones, more, x, y)
				}
			}
			narrower++
		}
		left := slices.Clone(l)
		n, _ := profile.Needless(zones, l)
		for _, i := range slices.Backward(n) {
			left = slices.Delete(left, i, i+1)
			needless++
		}
		if y, _, e := profile.Enclosure(zones, left); !slices.Equal(x, y) || e != api.OK {
			t.Fatal("not the same without the needless ones", zones, l, left, x, y)
		}
	}
	if inside < 2000 || narrower < 500 || needless < 1000 {
		t.Error("too few of a kind", inside, narrower, needless)
	}
}

// someCircle is a circle of signed readings, if one is found by chance.
func someCircle(random *rand.Rand, l []api.HeightReading) []int {
	var circle []int
	begin, at := -1, -1
	for range 200 {
		n := 1 + random.IntN(len(l))
		r := l[n-1]
		from, to := r.From, r.To
		if random.IntN(2) == 0 {
			n, from, to = -n, to, from
		}
		if at >= 0 && from != at {
			continue
		}
		if at < 0 {
			begin = from
		}
		circle, at = append(circle, n), to
		if at == begin || len(circle) == 40 {
			break
		}
	}
	return circle
}

func TestP5_11Clashes(t *testing.T) {
	random := rand.New(rand.NewPCG(5, 11))
	accepted, refused := 0, 0
	for range 3000 {
		zones, width := 2+random.IntN(5), []int{2, 20, 250000}[random.IntN(3)]
		l := someReadings(random, zones, width, width/2, true)
		_, e := expected(zones, l)
		if got := checkEnclosure(t, zones, l); got != e {
			t.Fatal(zones, l, got, e)
		}
		for range 10 {
			circle := someCircle(random, l)
			switch _, f := profile.CheckClash(zones, l, circle); {
			case f == api.OK && e != api.ErrClash:
				t.Fatal("a circle where there is no contradiction", zones, l, circle)
			case f == api.OK:
				accepted++
			case f == api.ErrProof:
				refused++
			}
		}
	}
	if accepted < 500 || refused < 3000 {
		t.Error("too few of a kind", accepted, refused)
	}
}

func TestP5_11Pairs(t *testing.T) {
	random := rand.New(rand.NewPCG(11, 5))
	for range 3000 {
		zones, width := 1+random.IntN(9), []int{2, 20, 250000}[random.IntN(3)]
		l := someReadings(random, zones, width, 0, true)
		a, b, c := random.IntN(zones), random.IntN(zones), random.IntN(zones)
		ab, e1 := profile.Between(zones, l, [2]int{a, b})
		ba, e2 := profile.Between(zones, l, [2]int{b, a})
		bc, e3 := profile.Between(zones, l, [2]int{b, c})
		ac, e4 := profile.Between(zones, l, [2]int{a, c})
		if agree(t, e1, e2, e3, e4) != api.OK || ba != span(-ab.Hi, -ab.Lo) || ab.Lo+bc.Lo > ac.Lo || ab.Hi+bc.Hi < ac.Hi {
			t.Fatal(zones, l, a, b, c, ab, ba, bc, ac)
		}
		if x, _, _ := profile.Enclosure(zones, l); a == 0 && x[b] != ab {
			t.Fatal(zones, l, b, x, ab)
		}
	}
}

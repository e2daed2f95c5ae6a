package figure_test

import (
	"math"
	"math/rand/v2"
	"slices"
	"testing"

	"speculum/api"
	"speculum/figure"
)

// work is the arguments of all functions of sessions, of which valid ones are accepted.
type work struct {
	heights, wanted []int
	wear            [][]int
	k               api.WearKinds
}

func kinds(most, tolerance int, wear ...[]int) api.WearKinds {
	return api.WearKinds{Wear: wear, Most: most, Tolerance: tolerance}
}

// validWork is the chapter's third and fourth example.
func validWork() work {
	return work{[]int{5, 3, 2}, []int{2, 2, 2}, [][]int{{1, 1, 0}, {2, 0, 0}}, kinds(3, 0, []int{1, 1, 0}, []int{2, 0, 0})}
}

func remainingError(t *testing.T, x work) api.Errno {
	t.Helper()
	l, e := figure.Remaining(x.heights, x.wear)
	none(t, e, l == nil)
	return e
}

// sessionsError is the error of CheckSessions, and the number beside it.
func sessionsError(x work) (int, api.Errno) {
	return figure.CheckSessions(x.heights, x.wanted, x.wear)
}

// timesError is the error of MostTimes for the first session.
func timesError(t *testing.T, x work) api.Errno {
	t.Helper()
	var wear []int
	if len(x.wear) > 0 {
		wear = x.wear[0]
	}
	n, e := figure.MostTimes(x.heights, x.wanted, wear)
	none(t, e, n == 0)
	return e
}

func fewestError(t *testing.T, x work) api.Errno {
	t.Helper()
	l, e := figure.FewestSessions(x.heights, x.wanted, x.k)
	none(t, e, l == nil)
	return e
}

// three is a list, of which a fault may have left too little.
func three(l *[]int) []int {
	for len(*l) < 3 {
		*l = append(*l, 2)
	}
	return *l
}

func heightFaults[T any](heights func(x *T) *[]int) []fault[T] {
	l := []fault[T]{
		{func(x *T) { *heights(x) = nil }, api.ErrShape},
		{func(x *T) { *heights(x) = make([]int, 41) }, api.ErrShape},
		{func(x *T) { *heights(x) = append(make([]int, 40), 100001) }, api.ErrShape},
	}
	for zone := range 3 {
		l = append(l, numberFaults(func(x *T) *int { return &three(heights(x))[zone] }, -100000, 100000, api.ErrRange)...)
	}
	return l
}

// sizeFaults are the faults of heights behind others, which have not as many.
func sizeFaults(heights func(x *work) *[]int) []fault[work] {
	return []fault[work]{
		{func(x *work) { *heights(x) = []int{2, 2} }, api.ErrShape},
		{func(x *work) { *heights(x) = []int{2, 100001} }, api.ErrShape},
		{func(x *work) { *heights(x) = []int{2, 2, 2, 2} }, api.ErrShape},
		{func(x *work) { *heights(x) = []int{2, 2, 2, -100001} }, api.ErrShape},
	}
}

func heightsOf(x *work) *[]int { return &x.heights }

func wantedOf(x *work) *[]int { return &x.wanted }

// wearFaults are the faults of wear.
func wearFaults(wear func(x *work) *[]int) []fault[work] {
	l := []fault[work]{
		{func(x *work) { *wear(x) = nil }, api.ErrShape},
		{func(x *work) { *wear(x) = []int{1, 0} }, api.ErrShape},
		{func(x *work) { *wear(x) = []int{100001, 0} }, api.ErrShape},
		{func(x *work) { *wear(x) = []int{1, 0, 0, 0} }, api.ErrShape},
		{func(x *work) { *wear(x) = []int{-1, 0, 0, 0} }, api.ErrShape},
		{func(x *work) { *wear(x) = make([]int, 41) }, api.ErrShape},
	}
	for _, n := range []int{-1, 100001, math.MinInt, math.MaxInt} {
		l = append(l,
			fault[work]{func(x *work) { *wear(x) = []int{n, 0, 0} }, api.ErrRange},
			fault[work]{func(x *work) { *wear(x) = []int{1, n, 0} }, api.ErrRange},
			fault[work]{func(x *work) { *wear(x) = []int{0, 0, n} }, api.ErrRange},
		)
	}
	return l
}

// many makes a session more than there may be.
func many(x *work) {
	x.wear = slices.Repeat([][]int{{0, 0, 0}}, 101)
}

// session is a session of a list, which a fault may have made too long.
func session(number int) func(x *work) *[]int {
	return func(x *work) *[]int {
		if len(x.wear) < 3 {
			return &x.wear[number]
		}
		return new([]int)
	}
}

func TestP6_3RemainingFaults(t *testing.T) {
	faults := append(heightFaults(heightsOf), fault[work]{many, api.ErrLarge})
	faults = append(faults, wearFaults(session(0))...)
	checkFaults(t, validWork, remainingError, append(faults, wearFaults(session(1))...))
}

func TestP6_3Remaining(t *testing.T) {
	for _, x := range []struct {
		heights []int
		wear    [][]int
		want    []int
	}{
		{[]int{5, 3, 2}, [][]int{{1, 1, 0}, {2, 0, 0}}, []int{2, 2, 2}},
		{[]int{5, 3, 2}, nil, []int{5, 3, 2}},
		{[]int{-100000, 100000}, slices.Repeat([][]int{{100000, 0}}, 100), []int{-10100000, 100000}},
		{[]int{0}, [][]int{{1}, {0}, {7}}, []int{-8}},
		{make([]int, 40), [][]int{slices.Repeat([]int{3}, 40)}, slices.Repeat([]int{-3}, 40)},
	} {
		if l, e := figure.Remaining(x.heights, x.wear); !slices.Equal(l, x.want) || e != api.OK {
			t.Error(x, l, e)
		}
	}
}

// TestP6_3SessionsFaults checks also that the number of a session stands beside its error.
func TestP6_3SessionsFaults(t *testing.T) {
	faults := append(heightFaults(heightsOf), sizeFaults(wantedOf)...)
	faults = append(faults, heightFaults(wantedOf)...)
	faults = append(faults, fault[work]{many, api.ErrLarge})
	for _, x := range []struct {
		want   int
		faults []fault[work]
	}{
		{-1, []fault[work]{
			{func(x *work) { three(&x.wanted)[0] = 6 }, api.ErrBreak},
			{func(x *work) { three(&x.wanted)[1] = 4 }, api.ErrBreak},
			{func(x *work) { three(&x.wanted)[2] = 100000 }, api.ErrBreak},
		}},
		{0, append(wearFaults(session(0)), fault[work]{func(x *work) { *session(0)(x) = []int{4, 0, 0} }, api.ErrBreak}, fault[work]{func(x *work) { *session(0)(x) = []int{0, 0, 1} }, api.ErrBreak})},
		{1, append(wearFaults(session(1)), fault[work]{func(x *work) { *session(1)(x) = []int{3, 0, 0} }, api.ErrBreak}, fault[work]{func(x *work) { *session(1)(x) = []int{0, 0, 100000} }, api.ErrBreak})},
	} {
		errorOf := func(t *testing.T, y work) api.Errno {
			t.Helper()
			n, e := sessionsError(y)
			if e != api.OK && n != x.want {
				t.Error(n, e, "wanted the number", x.want, y)
			}
			return e
		}
		checkFaults(t, validWork, errorOf, x.faults)
		// together with later ones the number is that of the first one
		for _, first := range x.faults {
			for _, second := range append(wearFaults(session(1)), fault[work]{func(x *work) { *session(1)(x) = []int{3, 0, 0} }, api.ErrBreak}) {
				y := validWork()
				second.spoil(&y)
				first.spoil(&y)
				if e := errorOf(t, y); e != first.want {
					t.Error(e, first.want, y)
				}
			}
		}
		for _, first := range faults {
			for _, second := range x.faults {
				y := validWork()
				second.spoil(&y)
				first.spoil(&y)
				if n, e := sessionsError(y); n != 0 || e != first.want {
					t.Error(n, e, first.want, y)
				}
			}
		}
	}
	checkFaults(t, validWork, func(t *testing.T, x work) api.Errno { _, e := sessionsError(x); return e }, faults)
}

func TestP6_3Sessions(t *testing.T) {
	for _, x := range []struct {
		heights, wanted []int
		wear            [][]int
		n               int
		want            api.Errno
	}{
		{[]int{5, 3, 2}, []int{2, 2, 2}, [][]int{{1, 1, 0}, {2, 0, 0}}, 0, api.OK},
		{[]int{5, 3, 2}, []int{2, 2, 2}, [][]int{{1, 1, 0}, {1, 1, 0}}, 1, api.ErrBreak},
		{[]int{5, 3, 2}, []int{2, 2, 2}, [][]int{{1, 1, 0}, {2, 0, 0}, {1, 0, 0}}, 2, api.ErrBreak},
		{[]int{5, 3, 2}, []int{2, 2, 2}, [][]int{{1, 1, 0}, {2, 0, 0}, {0, 0, 0}}, 0, api.OK},
		{[]int{5, 3, 2}, []int{5, 3, 2}, nil, 0, api.OK},
		{[]int{5, 3, 2}, []int{5, 4, 2}, nil, -1, api.ErrBreak},
		{[]int{5, 3, 2}, []int{5, 3, 2}, [][]int{{0, 0, 0}, {0, 0, 0}, {0, 1, 0}, {1}}, 2, api.ErrBreak},
		{[]int{5, 3, 2}, []int{5, 3, 2}, [][]int{{0, 0, 0}, {0, 0, 0}, {0, 1}, {1, 1, 1}}, 2, api.ErrShape},
		{[]int{5, 3, 2}, []int{5, 3, 2}, [][]int{{0, 0, 0}, {0, 0, 0}, {0, 1, -1}, {1, 1, 1}}, 2, api.ErrRange},
		{[]int{100000}, []int{-100000}, [][]int{{100000}, {99999}, {1}}, 0, api.OK},
		{[]int{100000}, []int{-100000}, [][]int{{100000}, {100000}, {1}}, 2, api.ErrBreak},
		{[]int{50}, []int{-50}, slices.Repeat([][]int{{1}}, 100), 0, api.OK},
		{[]int{49}, []int{-50}, slices.Repeat([][]int{{1}}, 100), 99, api.ErrBreak},
		{[]int{49}, []int{50}, slices.Repeat([][]int{{1}}, 101), 0, api.ErrLarge},
	} {
		if n, e := figure.CheckSessions(x.heights, x.wanted, x.wear); n != x.n || e != x.want {
			t.Error(x, n, e)
		}
	}
}

func TestP6_3MostTimesFaults(t *testing.T) {
	faults := append(heightFaults(heightsOf), sizeFaults(wantedOf)...)
	faults = append(faults, heightFaults(wantedOf)...)
	faults = append(faults, wearFaults(session(0))...)
	checkFaults(t, validWork, timesError, append(faults,
		fault[work]{func(x *work) { x.wanted = []int{6, 2, 2} }, api.ErrBreak},
		fault[work]{func(x *work) { x.wanted = []int{2, 2, 3} }, api.ErrBreak},
		fault[work]{func(x *work) { x.wear[0] = []int{0, 0, 0} }, api.ErrNone},
	))
}

func TestP6_3MostTimes(t *testing.T) {
	for _, x := range []struct {
		heights, wanted, wear []int
		n                     int
		want                  api.Errno
	}{
		{[]int{5, 3, 2}, []int{2, 2, 2}, []int{2, 0, 0}, 1, api.OK},
		{[]int{5, 3, 2}, []int{2, 2, 2}, []int{1, 0, 0}, 3, api.OK},
		{[]int{5, 3, 2}, []int{2, 2, 2}, []int{1, 1, 0}, 1, api.OK},
		{[]int{5, 3, 2}, []int{2, 2, 2}, []int{1, 1, 1}, 0, api.OK},
		{[]int{5, 3, 2}, []int{2, 2, 2}, []int{0, 0, 100000}, 0, api.OK},
		{[]int{5, 3, 2}, []int{2, 2, 2}, []int{4, 0, 0}, 0, api.OK},
		{[]int{5, 3, 2}, []int{2, 2, 2}, []int{3, 0, 0}, 1, api.OK},
		{[]int{5, 3, 2}, []int{2, 2, 2}, []int{0, 0, 0}, 0, api.ErrNone},
		{[]int{5, 3, 2}, []int{2, 2, 3}, []int{0, 0, 0}, 0, api.ErrBreak},
		{[]int{5, 3, 2}, []int{2, 2, 3}, []int{1, 0, 0}, 0, api.ErrBreak},
		{[]int{100000}, []int{-100000}, []int{1}, 200000, api.OK},
		{[]int{100000}, []int{-100000}, []int{100000}, 2, api.OK},
		{[]int{-1}, []int{-8}, []int{4}, 1, api.OK},
	} {
		if n, e := figure.MostTimes(x.heights, x.wanted, x.wear); n != x.n || e != x.want {
			t.Error(x, n, e)
		}
	}
}

func TestP6_3FewestFaults(t *testing.T) {
	faults := append(heightFaults(heightsOf), sizeFaults(wantedOf)...)
	faults = append(faults, heightFaults(wantedOf)...)
	faults = append(faults,
		fault[work]{func(x *work) { x.k.Wear = nil }, api.ErrShape},
		fault[work]{func(x *work) { x.k.Wear = make([][]int, 7) }, api.ErrShape},
		fault[work]{func(x *work) { x.k.Wear = slices.Repeat([][]int{{0, 0, 1}}, 7) }, api.ErrShape},
	)
	kind := func(number int) func(x *work) *[]int {
		return func(x *work) *[]int {
			if number < len(x.k.Wear) && len(x.k.Wear) < 7 {
				return &x.k.Wear[number]
			}
			return new([]int)
		}
	}
	faults = append(faults, wearFaults(kind(0))...)
	faults = append(faults, wearFaults(kind(1))...)
	faults = append(faults, numberFaults(func(x *work) *int { return &x.k.Most }, 0, 100, api.ErrRange)...)
	faults = append(faults, numberFaults(func(x *work) *int { return &x.k.Tolerance }, 0, 100000, api.ErrRange)...)
	faults = append(faults,
		fault[work]{func(x *work) { x.k.Wear, x.k.Most = slices.Repeat([][]int{{0, 0, 1}}, 6), 6 }, api.ErrLarge},
		fault[work]{func(x *work) { x.k.Wear, x.k.Most = slices.Repeat([][]int{{0, 0, 1}}, 3), 46 }, api.ErrLarge},
		fault[work]{func(x *work) { x.k.Wear, x.k.Most = slices.Repeat([][]int{{0, 0, 1}}, 6), 100 }, api.ErrLarge},
		fault[work]{func(x *work) { x.k.Most = 0 }, api.ErrNone},
		fault[work]{func(x *work) { x.wanted = []int{6, 2, 2} }, api.ErrNone},
		fault[work]{func(x *work) { x.wanted = []int{2, 2, 1} }, api.ErrNone},
	)
	checkFaults(t, validWork, fewestError, faults)
}

// TestP6_3FewestCounts checks how many lists may be tried.
func TestP6_3FewestCounts(t *testing.T) {
	for _, x := range []struct {
		kinds, most int
		want        api.Errno
	}{
		{1, 100, api.OK}, {2, 100, api.OK}, {3, 45, api.OK}, {3, 46, api.ErrLarge}, {4, 16, api.OK}, {4, 17, api.ErrLarge}, {5, 9, api.OK}, {5, 10, api.ErrLarge},
		{6, 5, api.OK}, {6, 6, api.ErrLarge}, {6, 0, api.ErrNone}, {6, 1, api.OK}, {7, 1, api.ErrShape}, {0, 1, api.ErrShape}, {1, 0, api.ErrNone},
	} {
		k := kinds(x.most, 0, slices.Repeat([][]int{{1}}, x.kinds)...)
		l, e := figure.FewestSessions([]int{1}, []int{0}, k)
		if e != x.want || e == api.OK && (len(l) != x.kinds || l[x.kinds-1] != 1) {
			t.Error(x, l, e)
		}
	}
}

func TestP6_3Fewest(t *testing.T) {
	one, two := []int{1, 1, 0}, []int{2, 0, 0}
	for _, x := range []struct {
		heights, wanted []int
		k               api.WearKinds
		list            []int
		want            api.Errno
	}{
		{[]int{5, 3, 2}, []int{2, 2, 2}, kinds(3, 0, one, two), []int{1, 1}, api.OK},
		{[]int{5, 3, 2}, []int{2, 2, 2}, kinds(3, 2, one, two), []int{0, 1}, api.OK},
		{[]int{5, 3, 2}, []int{2, 2, 2}, kinds(3, 2, two, one), []int{0, 1}, api.OK},
		{[]int{5, 3, 2}, []int{2, 2, 2}, kinds(3, 3, one, two), []int{0, 0}, api.OK},
		{[]int{5, 3, 2}, []int{2, 2, 2}, kinds(0, 3, one, two), []int{0, 0}, api.OK},
		{[]int{5, 3, 2}, []int{2, 2, 2}, kinds(0, 2, one, two), nil, api.ErrNone},
		{[]int{5, 3, 2}, []int{2, 2, 2}, kinds(3, 0, one, one), nil, api.ErrNone},
		{[]int{5, 3, 2}, []int{2, 3, 2}, kinds(3, 0, one, two), nil, api.ErrNone},
		{[]int{5, 3, 2}, []int{2, 2, 3}, kinds(3, 9, one, two), nil, api.ErrNone},
		{[]int{6}, []int{0}, kinds(6, 0, []int{1}, []int{2}, []int{3}), []int{0, 0, 2}, api.OK},
		{[]int{6}, []int{0}, kinds(1, 0, []int{1}, []int{2}, []int{3}), []int{1, 1, 1}, api.OK},
		{[]int{7}, []int{0}, kinds(6, 0, []int{1}, []int{2}, []int{3}), []int{0, 2, 1}, api.OK},
		{[]int{7}, []int{0}, kinds(6, 0, []int{3}, []int{2}, []int{1}), []int{1, 2, 0}, api.OK},
		{[]int{4}, []int{0}, kinds(6, 0, []int{1}, []int{2}, []int{3}), []int{0, 2, 0}, api.OK},
		{[]int{4}, []int{0}, kinds(6, 1, []int{1}, []int{2}, []int{3}), []int{0, 0, 1}, api.OK},
		{[]int{0}, []int{0}, kinds(6, 0, []int{0}, []int{0}), []int{0, 0}, api.OK},
		{[]int{100000}, []int{-100000}, kinds(100, 0, []int{100000}, []int{2000}), []int{2, 0}, api.OK},
		{[]int{100000}, []int{-100000}, kinds(100, 100000, []int{2000}), []int{50}, api.OK},
		{[]int{100000}, []int{-100000}, kinds(100, 0, []int{2000}), []int{100}, api.OK},
	} {
		if l, e := figure.FewestSessions(x.heights, x.wanted, x.k); !slices.Equal(l, x.list) || e != x.want {
			t.Error(x, l, e)
		}
	}
}

// lists is all lists of so many numbers from 0 to most, in lexicographic order.
func lists(count, most int) [][]int {
	all := [][]int{nil}
	for range count {
		var longer [][]int
		for _, l := range all {
			for n := range most + 1 {
				longer = append(longer, append(slices.Clone(l), n))
			}
		}
		all = longer
	}
	return all
}

func sumOf(l []int) int {
	sum := 0
	for _, n := range l {
		sum += n
	}
	return sum
}

// fewestByTrial is the first one of the lists with the fewest sessions, or none.
func fewestByTrial(x work) []int {
	all := lists(len(x.k.Wear), x.k.Most)
	slices.SortStableFunc(all, func(a, b []int) int { return sumOf(a) - sumOf(b) })
	at := slices.IndexFunc(all, func(times []int) bool {
		for zone, height := range x.heights {
			for kind, n := range times {
				height -= n * x.k.Wear[kind][zone]
			}
			if height < x.wanted[zone] || height > x.wanted[zone]+x.k.Tolerance {
				return false
			}
		}
		return true
	})
	if at < 0 {
		return nil
	}
	return all[at]
}

// someWork is valid work whose kinds have a good chance to be enough.
func someWork(random *rand.Rand) work {
	zones, count := 1+random.IntN(4), 1+random.IntN(4)
	x := work{wanted: someNumbers(random, zones, -20, 20), k: kinds(random.IntN(5), random.IntN(4))}
	for range count {
		x.k.Wear = append(x.k.Wear, someNumbers(random, zones, 0, 3))
	}
	x.heights = slices.Clone(x.wanted)
	for _, wear := range x.k.Wear {
		times := random.IntN(4)
		for zone := range x.heights {
			x.heights[zone] += times * wear[zone]
		}
	}
	if random.IntN(2) == 0 {
		x.heights[random.IntN(zones)] += random.IntN(4) - 1
	}
	for range random.IntN(6) {
		x.wear = append(x.wear, x.k.Wear[random.IntN(count)])
	}
	return x
}

func TestP6_3FewestByTrial(t *testing.T) {
	random := rand.New(rand.NewPCG(6, 3))
	found, more, refused := 0, 0, 0
	for range 12000 {
		x := someWork(random)
		want := fewestByTrial(x)
		l, e := figure.FewestSessions(x.heights, x.wanted, x.k)
		if !slices.Equal(l, want) || (e == api.OK) != (want != nil) || e != api.OK && e != api.ErrNone {
			t.Fatal(x, l, e, want)
		}
		if e != api.OK {
			refused++
		} else if found++; sumOf(l) > 2 {
			more++
		}
	}
	if found < 2000 || more < 500 || refused < 2000 {
		t.Error("too few of a kind", found, more, refused)
	}
}

// TestP6_9Sessions checks what remains behind sessions that are accepted, and those that are not.
func TestP6_9Sessions(t *testing.T) {
	random := rand.New(rand.NewPCG(9, 6))
	accepted, dug := 0, 0
	isBelow := func(l, wanted []int) bool {
		for zone := range l {
			if l[zone] < wanted[zone] {
				return true
			}
		}
		return false
	}
	for range 12000 {
		x := someWork(random)
		n, e := sessionsError(x)
		if e == api.OK {
			accepted++
			if l, e := figure.Remaining(x.heights, x.wear); isBelow(l, x.wanted) || e != api.OK || n != 0 {
				t.Fatal(x, l, e, n)
			}
			continue
		}
		dug++
		before, e1 := figure.Remaining(x.heights, x.wear[:max(n, 0)])
		behind, e2 := figure.Remaining(x.heights, x.wear[:n+1])
		if e != api.ErrBreak || agree(t, e1, e2) != api.OK || !isBelow(behind, x.wanted) || n >= 0 && isBelow(before, x.wanted) {
			t.Fatal(x, n, e, before, behind)
		}
	}
	if accepted < 2000 || dug < 2000 {
		t.Error("too few of a kind", accepted, dug)
	}
}

func TestP6_9MostTimes(t *testing.T) {
	random := rand.New(rand.NewPCG(99, 6))
	counts := [3]int{}
	for range 12000 {
		x := someWork(random)
		wear := x.k.Wear[0]
		for zone := range x.heights {
			x.heights[zone] = x.wanted[zone] + random.IntN(12)
		}
		n, e := figure.MostTimes(x.heights, x.wanted, wear)
		if slices.Max(wear) == 0 {
			if n != 0 || e != api.ErrNone {
				t.Fatal(x, n, e)
			}
			continue
		}
		if number, e := figure.CheckSessions(x.heights, x.wanted, slices.Repeat([][]int{wear}, n)); number != 0 || e != api.OK {
			t.Fatal(x, n, number, e)
		}
		if number, e := figure.CheckSessions(x.heights, x.wanted, slices.Repeat([][]int{wear}, n+1)); number != n || e != api.ErrBreak {
			t.Fatal(x, n, number, e)
		}
		if e != api.OK {
			t.Fatal(x, e)
		}
		counts[min(n, 2)]++
	}
	if slices.Min(counts[:]) < 500 {
		t.Error("too few of a kind", counts)
	}
}

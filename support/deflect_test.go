package support_test

import (
	"math"
	"math/big"
	"math/rand/v2"
	"slices"
	"testing"

	"speculum/api"
	"speculum/support"
)

// tableError is the error of CheckTable, and of Deflections.
func tableError(t *testing.T, x mount) api.Errno {
	t.Helper()
	return agree(t, support.CheckTable(x.t), bendingError(t, x))
}

// tableFaults are the faults of a table with two rows of four numbers.
func tableFaults() []fault[mount] {
	var faults []fault[mount]
	for _, spoil := range []func(x *mount){
		func(x *mount) { x.t = nil },
		func(x *mount) { x.t = make([][]int, 41) },
		func(x *mount) { x.t = slices.Repeat([][]int{{1, 2, 3, 4}}, 41) },
		func(x *mount) { x.t = [][]int{{3, 0, -6, 1}, nil} },
		func(x *mount) { x.t = [][]int{{3, 0, -6, 1}, {1, 2, 3}} },
		func(x *mount) { x.t = [][]int{{3, 0, -6, 1}, {1, 2, 3, 4, 10001}} },
		func(x *mount) { x.t = [][]int{{3, 0, -6, 1, 5}, {1, 2, 3, 4}} },
		func(x *mount) { x.t = [][]int{nil, {1, 2, 3, 4}} },
		func(x *mount) { x.t = [][]int{make([]int, 42), {1, 2, 3, 4}} },
		func(x *mount) { x.t = [][]int{make([]int, 42), make([]int, 42), make([]int, 41)} },
	} {
		faults = append(faults, fault[mount]{spoil, api.ErrShape})
	}
	faults = append(faults,
		fault[mount]{func(x *mount) { x.t = slices.Repeat([][]int{make([]int, 42)}, 2) }, api.ErrLarge},
		fault[mount]{func(x *mount) { x.t = slices.Repeat([][]int{slices.Repeat([]int{10001}, 42)}, 2) }, api.ErrLarge},
		fault[mount]{func(x *mount) { x.t = [][]int{make([]int, 10000)} }, api.ErrLarge},
	)
	for zone := range 2 {
		for i := range 4 {
			faults = append(faults, numberFaults(func(x *mount) *int { return &x.t[zone][i] }, -10000, 10000, api.ErrRange)...)
		}
	}
	return faults
}

func TestP7_4TableFaults(t *testing.T) {
	checkFaults(t, validMount, tableError, tableFaults())
	for zone := range 2 {
		for i := range 4 {
			checkLimits(t, validMount, tableError, func(x *mount) *int { return &x.t[zone][i] }, -10000, 10000)
		}
	}
	for _, rows := range []int{1, 2, 40} {
		for _, numbers := range []int{0, 1, 41} {
			if e := support.CheckTable(slices.Repeat([][]int{slices.Repeat([]int{10000}, numbers)}, rows)); e != api.OK {
				t.Error(rows, numbers, e)
			}
		}
	}
}

// TestP7_4BendingFaults checks that the error of the table comes first, that of the tree next.
func TestP7_4BendingFaults(t *testing.T) {
	shape := []fault[mount]{
		{func(x *mount) { x.t = [][]int{{}, {}} }, api.ErrShape},
		{func(x *mount) { x.t = [][]int{{1, 2, 3}, {1, 2, 3}} }, api.ErrShape},
		{func(x *mount) { x.t = [][]int{{1, 2, 3, 4, 5, 6}} }, api.ErrShape},
		{func(x *mount) { x.t = slices.Repeat([][]int{make([]int, 41)}, 40) }, api.ErrShape},
	}
	weight := numberFaults(func(x *mount) *int { return &x.weight }, 0, 100000, api.ErrRange)
	checkFaults(t, validMount, bendingError, slices.Concat(tableFaults(), treeFaults(), weight))
	checkFaults(t, validMount, bendingError, slices.Concat(treeFaults(), shape, weight))
	checkFaults(t, deepMount, bendingError, slices.Concat(shape, weight, []fault[mount]{tooDeep()}))
	checkLimits(t, validMount, bendingError, func(x *mount) *int { return &x.weight }, 0, 100000)
}

func TestP7_4Examples(t *testing.T) {
	x := validMount()
	for _, c := range []struct {
		table  [][]int
		weight int
		want   []api.Range
	}{
		{[][]int{{3, 0, -6, 1}}, 10, []api.Range{span(7, 8)}},
		{[][]int{{3, 0, -6, 1}}, 0, []api.Range{span(0, 0)}},
		{[][]int{{1, 0, 0, 0}, {-1, 0, 0, 0}, {0, 0, 0, 0}, {3, 0, 0, 0}, {1, 1, 0, 0}, {1, -1, 0, 0}, {-1, -1, -1, -1}}, 1,
			[]api.Range{span(0, 1), span(-1, 0), span(0, 0), span(1, 1), span(0, 2), span(-1, 1), span(-4, 0)}},
		{[][]int{{10000, 10000, 10000, 10000}, {-10000, -10000, -10000, -10000}}, 100000,
			[]api.Range{span(999999999, 1000000002), span(-1000000002, -999999999)}},
	} {
		if got, e := support.Deflections(c.table, x.l, c.weight); !slices.Equal(got, c.want) || e != api.OK {
			t.Error(c, got, e)
		}
	}
}

func TestP7_4SomeDeflections(t *testing.T) {
	random := rand.New(rand.NewPCG(7, 6))
	good := 0
	for round := range 2000 {
		l := someTree(random, 1+round%40, []int{1, 3, 30, 10000}[random.IntN(4)])
		shares, e := sharesOf(l)
		weight := random.IntN([]int{3, 100001}[round%2])
		table, want := make([][]int, 1+random.IntN(40)), []api.Range(nil)
		for zone := range table {
			sum := api.Range{}
			for point := range len(l) + 1 {
				n := random.IntN(20001) - 10000
				if e == api.OK {
					r := around(new(big.Rat).Mul(rat(shares[point]), big.NewRat(int64(n*weight), 1)))
					sum.Lo, sum.Hi = sum.Lo+r.Lo, sum.Hi+r.Hi
				}
				table[zone] = append(table[zone], n)
			}
			if e == api.OK {
				want = append(want, sum)
			}
		}
		got, e2 := support.Deflections(table, l, weight)
		if !slices.Equal(got, want) || e != e2 {
			t.Fatal(l, table, weight, got, want, e, e2)
		}
		if e == api.OK {
			good++
		}
	}
	if good < 500 {
		t.Error("too few", good)
	}
}

func peakError(t *testing.T, l []api.Range) api.Errno {
	t.Helper()
	r, e := support.PeakToValley(l)
	none(t, e, r == api.Range{})
	return e
}

func TestP7_4PeakFaults(t *testing.T) {
	valid := func() []api.Range { return []api.Range{span(0, 10), span(4, 5), span(-3, -3)} }
	faults := []fault[[]api.Range]{
		{func(l *[]api.Range) { *l = nil }, api.ErrShape},
		{func(l *[]api.Range) { *l = []api.Range{} }, api.ErrShape},
		{func(l *[]api.Range) { *l = make([]api.Range, 41) }, api.ErrShape},
		{func(l *[]api.Range) { *l = slices.Repeat([]api.Range{span(1, 0)}, 41) }, api.ErrShape},
	}
	for i := range 3 {
		for _, r := range []api.Range{span(0, 1000000000000001), span(-1000000000000001, 0), span(math.MinInt, 0), span(0, math.MaxInt), span(math.MaxInt, math.MinInt), span(1000000000000001, 0)} {
			faults = append(faults, fault[[]api.Range]{func(l *[]api.Range) { (*l)[i] = r }, api.ErrRange})
		}
		for _, r := range []api.Range{span(1, 0), span(1000000000000000, -1000000000000000)} {
			faults = append(faults, fault[[]api.Range]{func(l *[]api.Range) { (*l)[i] = r }, api.ErrOrder})
		}
	}
	for _, l := range [][]api.Range{
		{span(0, 1), span(0, 0), span(-1000000000000000, 0)},
		{span(0, 0), span(-1, 0), span(0, 1000000000000000)},
		{span(-1000000000000000, 0), span(1, 1), span(0, 0)},
		{span(1000000000000000, 1000000000000000), span(-1000000000000000, -1000000000000000), span(0, 0)},
		{span(-1000000000000000, 1000000000000000), span(-1000000000000000, 1000000000000000), span(0, 0)},
	} {
		faults = append(faults, fault[[]api.Range]{func(x *[]api.Range) { copy(*x, l) }, api.ErrLarge})
	}
	checkFaults(t, valid, peakError, faults)
}

func TestP7_4PeakToValley(t *testing.T) {
	const most = 1000000000000000
	for _, c := range []struct {
		l    []api.Range
		want api.Range
	}{
		{[]api.Range{span(0, 10), span(4, 5)}, span(0, 6)},
		{[]api.Range{span(4, 5), span(0, 10)}, span(0, 6)},
		{[]api.Range{span(0, 10)}, span(0, 0)},
		{[]api.Range{span(-most, most)}, span(0, 0)},
		{[]api.Range{span(7, 10), span(4, 5)}, span(2, 6)},
		{[]api.Range{span(7, 7), span(4, 4)}, span(3, 3)},
		{[]api.Range{span(7, 7), span(7, 7), span(7, 7)}, span(0, 0)},
		{[]api.Range{span(0, most), span(0, 0)}, span(0, most)},
		{[]api.Range{span(-most, -most), span(0, 0)}, span(most, most)},
		{[]api.Range{span(-most, -most), span(-1, 0), span(-7, -7)}, span(most-1, most)},
		{slices.Repeat([]api.Range{span(-3, 8)}, 40), span(0, 11)},
	} {
		if r, e := support.PeakToValley(c.l); r != c.want || e != api.OK {
			t.Error(c, r, e)
		}
	}
}

// apart is the least and the greatest difference for all choices of halves of numbers of ranges.
func apart(l []api.Range) api.Range {
	r := span(math.MaxInt, 0)
	var choose func(rest []api.Range, low, high int)
	choose = func(rest []api.Range, low, high int) {
		if len(rest) == 0 {
			r = span(min(r.Lo, high-low), max(r.Hi, high-low))
			return
		}
		for n := 2 * rest[0].Lo; n <= 2*rest[0].Hi; n++ {
			choose(rest[1:], min(low, n), max(high, n))
		}
	}
	choose(l, math.MaxInt, math.MinInt)
	return span(r.Lo/2, (r.Hi+1)/2)
}

// someRanges are as many ranges of small numbers.
func someRanges(random *rand.Rand, n int) []api.Range {
	var l []api.Range
	for range n {
		lo := random.IntN(11) - 5
		l = append(l, span(lo, lo+random.IntN(4)))
	}
	return l
}

func TestP7_4AllChoices(t *testing.T) {
	random := rand.New(rand.NewPCG(7, 7))
	for round := range 3000 {
		l := someRanges(random, 1+round%5)
		if r, e := support.PeakToValley(l); r != apart(l) || e != api.OK {
			t.Fatal(l, r, apart(l), e)
		}
	}
}

// TestP7_12NarrowerRanges checks that what comes of ranges within others lies within what comes of these.
func TestP7_12NarrowerRanges(t *testing.T) {
	random := rand.New(rand.NewPCG(7, 8))
	for round := range 5000 {
		l := someRanges(random, 1+round%40)
		wide, e := support.PeakToValley(l)
		for i, r := range l {
			lo := r.Lo + random.IntN(r.Hi-r.Lo+1)
			l[i] = span(lo, lo+random.IntN(r.Hi-lo+1))
		}
		narrow, e2 := support.PeakToValley(l)
		if narrow.Lo < wide.Lo || narrow.Hi > wide.Hi || agree(t, e, e2) != api.OK {
			t.Fatal(l, narrow, wide, e, e2)
		}
	}
}

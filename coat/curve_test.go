package coat_test

import (
	"math"
	"math/big"
	"math/rand/v2"
	"slices"
	"testing"

	"speculum/api"
	"speculum/coat"
)

// band is the arguments of all functions of reflectance tables, of which valid ones are accepted.
type band struct {
	l        []api.Reflect
	wave     int
	from, to int
	chain    [][]api.Reflect
}

func point(wave, lo, hi int) api.Reflect { return api.Reflect{Wave: wave, Share: span(lo, hi)} }

// chapterCurve is the table of the chapter's examples.
func chapterCurve() []api.Reflect {
	return []api.Reflect{point(400, 880, 900), point(700, 910, 915)}
}

func validBand() band {
	l := []api.Reflect{point(400, 880, 900), point(500, 0, 1000), point(700, 910, 915)}
	return band{l, 500, 450, 650, [][]api.Reflect{chapterCurve(), l, chapterCurve()}}
}

func atError(t *testing.T, x band) api.Errno {
	t.Helper()
	r, e := coat.At(x.l, x.wave)
	none(t, e, r == api.Range{})
	chained, e2 := coat.Chain([][]api.Reflect{x.l}, x.wave)
	none(t, e2, chained == api.Range{})
	return agree(t, e, e2)
}

func leastError(t *testing.T, x band) api.Errno {
	t.Helper()
	r, e := coat.Least(x.l, x.from, x.to)
	none(t, e, r == api.Range{})
	return e
}

func chainError(t *testing.T, x band) api.Errno {
	t.Helper()
	r, e := coat.Chain(x.chain, x.wave)
	none(t, e, r == api.Range{})
	return e
}

func curveError(t *testing.T, x band) api.Errno {
	t.Helper()
	return agree(t, coat.CheckCurve(x.l), atError(t, x), leastError(t, x))
}

// manyPoints are points at 1, 2, ..
func manyPoints(n int) []api.Reflect {
	var l []api.Reflect
	for i := range n {
		l = append(l, point(i+1, i, i+1))
	}
	return l
}

// curveFaults are the faults of a table of three points.
func curveFaults() []fault[band] {
	faults := []fault[band]{
		{func(x *band) { x.l = nil }, api.ErrShape},
		{func(x *band) { x.l = x.l[:1] }, api.ErrShape},
		{func(x *band) { x.l = make([]api.Reflect, 1) }, api.ErrShape},
		{func(x *band) { x.l = make([]api.Reflect, 61) }, api.ErrShape},
		{func(x *band) { x.l = manyPoints(61) }, api.ErrShape},
	}
	for i := range 3 {
		faults = append(faults, numberFaults(func(x *band) *int { return &x.l[i].Wave }, 1, 100000, api.ErrRange)...)
		faults = append(faults, rangeFaults(func(x *band) *api.Range { return &x.l[i].Share }, 0, 1000)...)
		if i > 0 {
			faults = append(faults, fault[band]{func(x *band) { x.l[i].Wave = min(x.l[i-1].Wave, 100000) }, api.ErrOrder})
			faults = append(faults, fault[band]{func(x *band) { x.l[i].Wave = 1 }, api.ErrOrder})
		}
	}
	return faults
}

func TestP8_4CurveFaults(t *testing.T) {
	checkFaults(t, validBand, curveError, curveFaults())
	for _, l := range [][]api.Reflect{
		manyPoints(2), manyPoints(60), {point(1, 0, 0), point(2, 0, 1000), point(100000, 1000, 1000)}, {point(99999, 0, 0), point(100000, 1, 1)},
	} {
		if e := coat.CheckCurve(l); e != api.OK {
			t.Error(l, e)
		}
	}
}

func TestP8_4AtFaults(t *testing.T) {
	faults := append(curveFaults(), numberFaults(func(x *band) *int { return &x.wave }, 400, 700, api.ErrRange)...)
	checkFaults(t, validBand, atError, faults)
	checkLimits(t, validBand, atError, func(x *band) *int { return &x.wave }, 400, 700)
}

func TestP8_4LeastFaults(t *testing.T) {
	faults := append(curveFaults(), numberFaults(func(x *band) *int { return &x.from }, 400, 700, api.ErrRange)...)
	faults = append(faults, numberFaults(func(x *band) *int { return &x.to }, 400, 700, api.ErrRange)...)
	faults = append(faults,
		fault[band]{func(x *band) { x.from, x.to = 500, 499 }, api.ErrOrder},
		fault[band]{func(x *band) { x.from, x.to = 700, 400 }, api.ErrOrder},
	)
	checkFaults(t, validBand, leastError, faults)
	for _, c := range [][2]int{{400, 400}, {400, 700}, {700, 700}, {550, 550}, {499, 500}} {
		if _, e := coat.Least(validBand().l, c[0], c[1]); e != api.OK {
			t.Error(c, e)
		}
	}
}

func TestP8_4ChainFaults(t *testing.T) {
	wide := []api.Reflect{point(1, 0, 0), point(100000, 0, 0)}
	narrow := []api.Reflect{point(1, 0, 0), point(499, 0, 0)}
	faults := []fault[band]{
		{func(x *band) { x.chain = make([][]api.Reflect, 11) }, api.ErrLarge},
		{func(x *band) { x.chain = slices.Repeat(x.chain[1:2], 11) }, api.ErrLarge},
		{func(x *band) { x.chain[0] = nil }, api.ErrShape},
		{func(x *band) { x.chain[0] = []api.Reflect{point(1, 0, 0), point(1, 0, 0)} }, api.ErrOrder},
		{func(x *band) { x.chain[0] = narrow }, api.ErrRange},
		{func(x *band) { x.chain[1] = []api.Reflect{{}, {}} }, api.ErrRange},
		{func(x *band) { x.chain[1] = narrow }, api.ErrRange},
		{func(x *band) { x.chain[2] = wide[:1] }, api.ErrShape},
		{func(x *band) { x.chain[2] = narrow }, api.ErrRange},
	}
	checkFaults(t, validBand, chainError, faults)
	if r, e := coat.Chain(slices.Repeat([][]api.Reflect{wide}, 10), 1); r != span(0, 0) || e != api.OK {
		t.Error(r, e)
	}
	for _, wave := range []int{math.MinInt, -1, 0, 500, math.MaxInt} {
		if r, e := coat.Chain(nil, wave); r != span(1000, 1000) || e != api.OK {
			t.Error(wave, r, e)
		}
	}
}

func TestP8_4At(t *testing.T) {
	l := []api.Reflect{point(1, 5, 5), point(4, 4, 6), point(5, 1000, 1000), point(99999, 0, 1000), point(100000, 0, 0)}
	for _, c := range []struct {
		l    []api.Reflect
		wave int
		want api.Range
	}{
		{chapterCurve(), 400, span(880, 900)}, {chapterCurve(), 500, span(890, 905)}, {chapterCurve(), 700, span(910, 915)}, {chapterCurve(), 401, span(880, 901)}, {chapterCurve(), 699, span(909, 915)},
		{chapterCurve(), 550, span(895, 908)},
		{l, 1, span(5, 5)}, {l, 2, span(4, 6)}, {l, 3, span(4, 6)}, {l, 4, span(4, 6)}, {l, 5, span(1000, 1000)}, {l, 6, span(999, 1000)}, {l, 50002, span(500, 1000)}, {l, 50003, span(499, 1000)},
		{l, 99998, span(0, 1000)}, {l, 99999, span(0, 1000)}, {l, 100000, span(0, 0)},
	} {
		if r, e := coat.At(c.l, c.wave); r != c.want || e != api.OK {
			t.Error(c, r, e)
		}
	}
}

// someCurve is a table with points that are up to so far apart.
func someCurve(random *rand.Rand, points, apart int) []api.Reflect {
	var l []api.Reflect
	wave := 0
	for range points {
		wave += 1 + random.IntN(apart)
		lo := random.IntN(1001)
		l = append(l, point(wave, lo, lo+random.IntN(1001-lo)))
	}
	return l
}

// line is the point of the straight line from (x0, y0) to (x1, y1) at x.
func line(x0, y0, x1, y1, x int) *big.Rat {
	way := new(big.Rat).Mul(big.NewRat(int64(y1-y0), int64(x1-x0)), big.NewRat(int64(x-x0), 1))
	return way.Add(way, big.NewRat(int64(y0), 1))
}

func TestP8_4AtExactly(t *testing.T) {
	random := rand.New(rand.NewPCG(8, 4))
	for range 300 {
		l := someCurve(random, 2+random.IntN(59), []int{3, 30, 1600}[random.IntN(3)])
		for i := range len(l) - 1 {
			a, b := l[i], l[i+1]
			for wave := a.Wave; wave <= b.Wave; wave += 1 + random.IntN(1+(b.Wave-a.Wave)/10) {
				lo, hi := line(a.Wave, a.Share.Lo, b.Wave, b.Share.Lo, wave), line(a.Wave, a.Share.Hi, b.Wave, b.Share.Hi, wave)
				want := span(around(lo.Num(), lo.Denom()).Lo, around(hi.Num(), hi.Denom()).Hi)
				if r, e := coat.At(l, wave); r != want || e != api.OK {
					t.Fatal(l, wave, r, e, want)
				}
			}
			if r, e := coat.At(l, b.Wave); r != b.Share || e != api.OK {
				t.Fatal(l, b, r, e)
			}
		}
	}
}

func TestP8_4Least(t *testing.T) {
	valley := []api.Reflect{point(10, 900, 950), point(20, 100, 940), point(30, 800, 930), point(40, 700, 990)}
	for _, c := range []struct {
		l        []api.Reflect
		from, to int
		want     api.Range
	}{
		{chapterCurve(), 500, 700, span(890, 905)}, {chapterCurve(), 400, 700, span(880, 900)}, {chapterCurve(), 700, 700, span(910, 915)},
		{valley, 10, 40, span(100, 930)}, {valley, 10, 15, span(500, 945)}, {valley, 15, 25, span(100, 935)}, {valley, 21, 40, span(170, 930)}, {valley, 30, 40, span(700, 930)}, {valley, 31, 40, span(700, 936)},
		{valley, 20, 20, span(100, 940)}, {valley, 19, 19, span(180, 941)}, {valley, 10, 10, span(900, 950)}, {valley, 21, 29, span(170, 931)},
	} {
		if r, e := coat.Least(c.l, c.from, c.to); r != c.want || e != api.OK {
			t.Error(c, r, e)
		}
	}
}

// TestP8_4LeastOfAll goes through all wavelengths of bands.
func TestP8_4LeastOfAll(t *testing.T) {
	random := rand.New(rand.NewPCG(8, 44))
	for range 1000 {
		l := someCurve(random, 2+random.IntN(9), 1+random.IntN(40))
		first, last := l[0].Wave, l[len(l)-1].Wave
		from := first + random.IntN(last-first+1)
		to := from + random.IntN(last-from+1)
		least := span(1000, 1000)
		for wave := from; wave <= to; wave++ {
			r, _ := coat.At(l, wave)
			least = span(min(least.Lo, r.Lo), min(least.Hi, r.Hi))
		}
		if r, e := coat.Least(l, from, to); r != least || e != api.OK {
			t.Fatal(l, from, to, r, e, least)
		}
	}
}

func TestP8_4Chain(t *testing.T) {
	flat := func(lo, hi int) []api.Reflect { return []api.Reflect{point(1, lo, hi), point(1000, lo, hi)} }
	for _, c := range []struct {
		l    [][]api.Reflect
		want api.Range
	}{
		{[][]api.Reflect{chapterCurve(), chapterCurve()}, span(792, 820)},
		{[][]api.Reflect{chapterCurve()}, span(890, 905)},
		{[][]api.Reflect{flat(1000, 1000), flat(999, 999), flat(999, 999)}, span(998, 999)},
		{[][]api.Reflect{flat(0, 0), flat(1000, 1000)}, span(0, 0)},
		{[][]api.Reflect{flat(1, 1), flat(1, 1), flat(1, 1)}, span(0, 1)},
		{[][]api.Reflect{flat(500, 500), flat(500, 500), flat(500, 500)}, span(125, 125)},
		{[][]api.Reflect{flat(333, 667), flat(500, 501), flat(900, 1000)}, span(149, 335)}, // 166, 149.4; 334.167
	} {
		if r, e := coat.Chain(c.l, 500); r != c.want || e != api.OK {
			t.Error(c, r, e)
		}
	}
}

func TestP8_4ChainExactly(t *testing.T) {
	random := rand.New(rand.NewPCG(8, 444))
	for range 2000 {
		var l [][]api.Reflect
		want := span(1000, 1000)
		wave := 3 + random.IntN(10)
		for range random.IntN(11) {
			table := someCurve(random, 2+random.IntN(20), 3)
			table[0].Wave, table[len(table)-1].Wave = 1, 100
			if random.IntN(2) == 0 {
				table[0].Share, table[len(table)-1].Share = span(990, 1000), span(980, 999)
			}
			l = append(l, table)
			r, _ := coat.At(table, wave)
			want = span(around(product(want.Lo, r.Lo), product(1000)).Lo, around(product(want.Hi, r.Hi), product(1000)).Hi)
		}
		if r, e := coat.Chain(l, wave); r != want || e != api.OK {
			t.Fatal(l, wave, r, e, want)
		}
	}
}

func TestP8_9BetweenPoints(t *testing.T) {
	random := rand.New(rand.NewPCG(8, 94))
	for range 300 {
		l := someCurve(random, 2+random.IntN(30), 1+random.IntN(100))
		for i := range len(l) - 1 {
			a, b := l[i], l[i+1]
			for wave := a.Wave; wave <= b.Wave; wave++ {
				r, e := coat.At(l, wave)
				if e != api.OK || r.Lo > r.Hi || r.Lo < min(a.Share.Lo, b.Share.Lo) || r.Hi > max(a.Share.Hi, b.Share.Hi) {
					t.Fatal(a, b, wave, r, e)
				}
			}
		}
	}
}

func TestP8_9LeastIsAtMostAt(t *testing.T) {
	random := rand.New(rand.NewPCG(8, 95))
	for range 2000 {
		l := someCurve(random, 2+random.IntN(59), 1+random.IntN(1600))
		first, last := l[0].Wave, l[len(l)-1].Wave
		waves := []int{first + random.IntN(last-first+1), first + random.IntN(last-first+1), first + random.IntN(last-first+1)}
		slices.Sort(waves)
		least, e := coat.Least(l, waves[0], waves[2])
		r, e2 := coat.At(l, waves[1])
		if agree(t, e, e2) != api.OK || least.Lo > r.Lo || least.Hi > r.Hi {
			t.Fatal(l, waves, least, r)
		}
	}
}

func TestP8_9LongerChains(t *testing.T) {
	random := rand.New(rand.NewPCG(8, 96))
	for range 2000 {
		var l [][]api.Reflect
		before := span(1000, 1000)
		for range 10 {
			table := someCurve(random, 2+random.IntN(3), 20)
			table[0].Wave = 1
			if random.IntN(2) == 0 {
				table[0].Share = span(990, 1000)
			}
			l = append(l, table)
			r, e := coat.Chain(l, 1)
			if e != api.OK || r.Lo > before.Lo || r.Hi > before.Hi || r.Lo > r.Hi {
				t.Fatal(l, r, e, before)
			}
			before = r
		}
	}
}

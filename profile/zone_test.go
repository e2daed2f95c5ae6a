package profile_test

import (
	"math"
	"math/big"
	"math/rand/v2"
	"slices"
	"testing"

	"speculum/api"
	"speculum/profile"
)

// knife is zones and a reading of them.
type knife struct {
	radii []int
	k     api.KnifeReading
}

func validKnife() knife {
	return knife{[]int{10000, 20000, 30000, 35000}, api.KnifeReading{Zone: 1, Slope: span(-3, 4)}}
}

func zonesError(t *testing.T, x knife) api.Errno {
	t.Helper()
	return agree(t, profile.CheckZones(x.radii), knifeError(t, x))
}

func knifeError(t *testing.T, x knife) api.Errno {
	t.Helper()
	r, e := profile.Reduced(x.radii, x.k)
	none(t, e, r == api.HeightReading{})
	return e
}

// manyRadii are the outer radii of n zones of one width.
func manyRadii(n, width int) []int {
	var l []int
	for i := range n {
		l = append(l, (i+1)*width)
	}
	return l
}

func zoneFaults() []fault[knife] {
	l := []fault[knife]{
		{func(x *knife) { x.radii = nil }, api.ErrShape},
		{func(x *knife) { x.radii = manyRadii(41, 100) }, api.ErrShape},
	}
	for i := range 4 {
		l = append(l, numberFaults(func(x *knife) *int { return &x.radii[i] }, 1, 1000000, api.ErrRange)...)
		if i > 0 {
			l = append(l, fault[knife]{func(x *knife) { x.radii[i] = 10000 }, api.ErrOrder})
			l = append(l, fault[knife]{func(x *knife) { x.radii[i] = 9999 }, api.ErrOrder})
		}
	}
	return l
}

func TestP5_1Zones(t *testing.T) {
	checkFaults(t, validKnife, zonesError, zoneFaults())
	for _, x := range []struct {
		radii []int
		want  api.Errno
	}{
		{[]int{1}, api.OK}, {[]int{1000000}, api.OK}, {[]int{1, 2}, api.OK}, {[]int{999999, 1000000}, api.OK}, {manyRadii(40, 25000), api.OK}, {[]int{0}, api.ErrRange},
		{[]int{5, 5}, api.ErrOrder}, {[]int{5, 4}, api.ErrOrder}, {[]int{5, 7, 6, 0}, api.ErrOrder}, {[]int{5, 0, 4, 3}, api.ErrRange}, {[]int{5, 1000001, 3}, api.ErrRange},
		{[]int{5, 6, 7, 7}, api.ErrOrder}, {[]int{5, 6, 7, 6}, api.ErrOrder}, {[]int{5, 6, 7, 8, 9, 1000001}, api.ErrRange}, {[]int{}, api.ErrShape},
		{make([]int, 41), api.ErrShape}, {make([]int, 40), api.ErrRange}, {manyRadii(40, 25001), api.ErrRange}, {[]int{7, math.MinInt}, api.ErrRange},
	} {
		if e := profile.CheckZones(x.radii); e != x.want {
			t.Error(x, e)
		}
	}
}

func TestP5_1Faults(t *testing.T) {
	order := func(x *knife) { x.k.Slope = span(5, 4) }
	checkFaults(t, validKnife, knifeError, slices.Concat(
		zoneFaults(),
		numberFaults(func(x *knife) *int { return &x.k.Zone }, 0, 2, api.ErrMissing),
		numberFaults(func(x *knife) *int { return &x.k.Slope.Lo }, -1000000, 1000000, api.ErrRange),
		numberFaults(func(x *knife) *int { return &x.k.Slope.Hi }, -1000000, 1000000, api.ErrRange),
		[]fault[knife]{
			{order, api.ErrOrder},
			{func(x *knife) { x.k.Slope = span(1000000, -1000000) }, api.ErrOrder},
			{func(x *knife) { x.k.Slope = span(-1000000, 0) }, api.ErrLarge},
			{func(x *knife) { x.k.Slope = span(0, 1000000) }, api.ErrLarge},
			{func(x *knife) { x.k.Slope = span(100001, 100001) }, api.ErrLarge},
		},
	))
	one := knife{[]int{7}, api.KnifeReading{}}
	if e := knifeError(t, one); e != api.ErrMissing {
		t.Error("one zone has no next one", e)
	}
}

func TestP5_1Limits(t *testing.T) {
	narrow := func() knife { return knife{[]int{10, 20, 30}, api.KnifeReading{Zone: 0}} }
	checkLimits(t, narrow, knifeError, func(x *knife) *int { return &x.k.Zone }, 0, 1)
	checkLimits(t, narrow, knifeError, func(x *knife) *int { return &x.k.Slope.Lo }, -1000000, 0)
	checkLimits(t, narrow, knifeError, func(x *knife) *int { return &x.k.Slope.Hi }, 0, 1000000)
	// from 0 to 1 the double distance of the middles is 2000, so that ends are slopes; or 2001
	for _, x := range []struct {
		d, lo, hi int
		want      api.Errno
		diff      api.Range
	}{
		{2000, -1000000, 1000000, api.OK, span(-1000000, 1000000)},
		{2000, 1000000, 1000000, api.OK, span(1000000, 1000000)},
		{2000, -1000000, -1000000, api.OK, span(-1000000, -1000000)},
		{2001, -999500, 999500, api.OK, span(-1000000, 1000000)}, // 999999.75
		{2001, -999501, 0, api.ErrLarge, span(0, 0)},
		{2001, 0, 999501, api.ErrLarge, span(0, 0)},
		{1000000, 2000, 2000, api.OK, span(1000000, 1000000)},
		{1000000, 2001, 2001, api.ErrLarge, span(0, 0)},
		{1000000, 1000000, 1000000, api.ErrLarge, span(0, 0)},
		{1000000, -1000000, -1000000, api.ErrLarge, span(0, 0)},
	} {
		r, e := profile.Reduced([]int{1, x.d}, api.KnifeReading{Slope: span(x.lo, x.hi)})
		want := api.HeightReading{To: 1, Diff: x.diff}
		if x.want != api.OK {
			want = api.HeightReading{}
		}
		if r != want || e != x.want {
			t.Error(x, r, e)
		}
	}
}

func TestP5_1Examples(t *testing.T) {
	radii := []int{10000, 20000, 30000, 30001}
	for _, x := range []struct {
		zone, lo, hi int
		diff         api.Range
	}{
		{0, 5, 7, span(50, 70)}, {1, -2, 0, span(-20, 0)}, {1, 5, 7, span(50, 70)}, {2, 3, 3, span(15, 16)}, {2, -3, -3, span(-16, -15)}, {2, -1, 1, span(-6, 6)},
		{2, 0, 0, span(0, 0)}, {2, 2000, 2000, span(10001, 10001)}, {2, -2000, -2000, span(-10001, -10001)}, {0, 0, 1, span(0, 10)},
	} {
		r, e := profile.Reduced(radii, api.KnifeReading{Zone: x.zone, Slope: span(x.lo, x.hi)})
		if r != (api.HeightReading{From: x.zone, To: x.zone + 1, Diff: x.diff}) || e != api.OK {
			t.Error(x, r, e)
		}
	}
}

// middle is half way between the radii of a zone.
func middle(radii []int, zone int) *big.Rat {
	if zone == 0 {
		return ratio(radii[0], 2)
	}
	return ratio(radii[zone-1]+radii[zone], 2)
}

// floor is a number rounded down.
func floor(n *big.Rat) int {
	q, _ := new(big.Int).DivMod(n.Num(), n.Denom(), new(big.Int))
	return int(q.Int64())
}

func ceil(n *big.Rat) int {
	return -floor(new(big.Rat).Neg(n))
}

func TestP5_1AgainstBig(t *testing.T) {
	random := rand.New(rand.NewPCG(5, 1))
	large := 0
	for range 20000 {
		var radii []int
		at := 0
		for range 2 + random.IntN(6) {
			at += 1 + random.IntN([]int{3, 200, 100000}[random.IntN(3)])
			radii = append(radii, at)
		}
		zone, width := random.IntN(len(radii)-1), []int{5, 3000, 1000000}[random.IntN(3)]
		lo := random.IntN(2*width+1) - width
		hi := lo + random.IntN(width-lo+1)
		x := knife{radii, api.KnifeReading{Zone: zone, Slope: span(lo, hi)}}
		apart := new(big.Rat).Sub(middle(radii, zone+1), middle(radii, zone))
		ends := func(slope int) *big.Rat { return new(big.Rat).Mul(apart, ratio(slope, 1000)) }
		diff := span(floor(ends(lo)), ceil(ends(hi)))
		r, e := profile.Reduced(x.radii, x.k)
		if diff.Lo < -1000000 || diff.Hi > 1000000 || diff.Lo > 1000000 || diff.Hi < -1000000 {
			large++
			if r != (api.HeightReading{}) || e != api.ErrLarge {
				t.Fatal(x, r, e)
			}
			continue
		}
		if r != (api.HeightReading{From: zone, To: zone + 1, Diff: diff}) || e != api.OK {
			t.Fatal(x, r, e, diff)
		}
	}
	if large < 1000 || large > 15000 {
		t.Error("too few of a kind", large)
	}
}

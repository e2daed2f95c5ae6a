package coat_test

import (
	"math"
	"math/big"
	"math/rand/v2"
	"slices"
	"testing"

	"speculum/api"
	"speculum/coat"
)

// masking is the arguments of all functions of masks, of which valid ones are accepted.
type masking struct {
	t            api.Range
	mask         []int
	rates, wants []int
}

func validMasking() masking {
	return masking{span(9000, 11110), []int{1000, 333, 0}, []int{2, 4, 3}, []int{10, 10, 10}}
}

func maskError(_ *testing.T, x masking) api.Errno {
	return coat.CheckMask(x.mask)
}

func throughError(t *testing.T, x masking) api.Errno {
	t.Helper()
	l, e := coat.Through(x.t, x.mask)
	none(t, e, l == nil)
	return e
}

func maskForError(t *testing.T, x masking) api.Errno {
	t.Helper()
	l, e := coat.MaskFor(x.rates, x.wants)
	none(t, e, l == nil)
	return e
}

// maskFaults are the faults of a mask of three zones.
func maskFaults() []fault[masking] {
	faults := []fault[masking]{
		{func(x *masking) { x.mask = nil }, api.ErrShape},
		{func(x *masking) { x.mask = []int{} }, api.ErrShape},
		{func(x *masking) { x.mask = make([]int, 41) }, api.ErrShape},
		{func(x *masking) { x.mask = slices.Repeat([]int{-1}, 41) }, api.ErrShape},
	}
	for i := range 3 {
		faults = append(faults, numberFaults(func(x *masking) *int { return &x.mask[i] }, 0, 1000, api.ErrRange)...)
	}
	return faults
}

func TestP8_3MaskFaults(t *testing.T) {
	checkFaults(t, validMasking, maskError, maskFaults())
	for i := range 3 {
		checkLimits(t, validMasking, maskError, func(x *masking) *int { return &x.mask[i] }, 0, 1000)
	}
	for _, zones := range []int{1, 2, 39, 40} {
		if e := coat.CheckMask(make([]int, zones)); e != api.OK {
			t.Error(zones, e)
		}
	}
}

func TestP8_3ThroughFaults(t *testing.T) {
	var faults []fault[masking]
	for _, c := range []struct {
		t api.Range
		e api.Errno
	}{
		{span(0, 1000000000000001), api.ErrRange}, {span(-1000000000000001, 0), api.ErrRange}, {span(math.MinInt, math.MaxInt), api.ErrRange}, {span(math.MaxInt, math.MinInt), api.ErrRange},
		{span(1000000000000001, 0), api.ErrRange},
		{span(1, 0), api.ErrOrder}, {span(-1, -2), api.ErrOrder}, {span(1000000000000000, -1000000000000000), api.ErrOrder},
		{span(-1, 0), api.ErrRange}, {span(-1, 1), api.ErrRange}, {span(-1000000000000000, 1000000000000000), api.ErrRange},
	} {
		faults = append(faults, fault[masking]{func(x *masking) { x.t = c.t }, c.e})
	}
	checkFaults(t, validMasking, throughError, append(faults, maskFaults()...))
}

func TestP8_3Through(t *testing.T) {
	for _, c := range []struct {
		t    api.Range
		mask []int
		want []api.Range
	}{
		{span(9000, 11110), []int{1000, 333}, []api.Range{span(9000, 11110), span(2997, 3700)}},
		{span(0, 0), []int{1000, 0, 1}, []api.Range{span(0, 0), span(0, 0), span(0, 0)}},
		{span(0, 1), []int{1000, 0, 1, 999}, []api.Range{span(0, 1), span(0, 0), span(0, 1), span(0, 1)}},
		{span(999, 1001), []int{1000, 0, 1, 500}, []api.Range{span(999, 1001), span(0, 0), span(0, 2), span(499, 501)}},
		{span(1000, 1000), []int{1, 999}, []api.Range{span(1, 1), span(999, 999)}},
		{span(1000000000000000, 1000000000000000), []int{1000, 999, 1}, []api.Range{span(1000000000000000, 1000000000000000), span(999000000000000, 999000000000000), span(1000000000000, 1000000000000)}},
		{span(999999999999999, 999999999999999), []int{999, 1}, []api.Range{span(998999999999999, 999000000000000), span(999999999999, 1000000000000)}},
	} {
		if l, e := coat.Through(c.t, c.mask); !slices.Equal(l, c.want) || e != api.OK {
			t.Error(c, l, e)
		}
	}
}

// around is num / den, rounded down and up.
func around(num, den *big.Int) api.Range {
	lo, rest := new(big.Int).DivMod(num, den, new(big.Int))
	hi := new(big.Int).Set(lo)
	if rest.Sign() > 0 {
		hi.Add(hi, big.NewInt(1))
	}
	return span(int(lo.Int64()), int(hi.Int64()))
}

// product is the product of numbers.
func product(numbers ...int) *big.Int {
	p := big.NewInt(1)
	for _, n := range numbers {
		p.Mul(p, big.NewInt(int64(n)))
	}
	return p
}

func TestP8_3ThroughExactly(t *testing.T) {
	random := rand.New(rand.NewPCG(8, 3))
	for range 3000 {
		limit := []int{10, 10000, 1000000000000001}[random.IntN(3)]
		lo := random.IntN(limit)
		x := span(lo, lo+random.IntN(limit-lo))
		mask := make([]int, 1+random.IntN(40))
		for i := range mask {
			mask[i] = random.IntN(1001)
		}
		l, e := coat.Through(x, mask)
		if e != api.OK || len(l) != len(mask) {
			t.Fatal(x, mask, l, e)
		}
		for i, opening := range mask {
			want := span(around(product(x.Lo, opening), product(1000)).Lo, around(product(x.Hi, opening), product(1000)).Hi)
			if l[i] != want {
				t.Fatal(x, opening, l[i], want)
			}
		}
	}
}

func TestP8_3MaskForFaults(t *testing.T) {
	faults := []fault[masking]{
		{func(x *masking) { x.rates = nil }, api.ErrShape},
		{func(x *masking) { x.wants = nil }, api.ErrShape},
		{func(x *masking) { x.rates, x.wants = nil, nil }, api.ErrShape},
		{func(x *masking) { x.rates = x.rates[:2] }, api.ErrShape},
		{func(x *masking) { x.wants = x.wants[:1] }, api.ErrShape},
		{func(x *masking) { x.rates = append(x.rates, 1) }, api.ErrShape},
		{func(x *masking) { x.wants = append(x.wants, 1, 1) }, api.ErrShape},
		{func(x *masking) { x.rates, x.wants = make([]int, 41), make([]int, 41) }, api.ErrShape},
		{func(x *masking) { x.rates, x.wants = slices.Repeat([]int{1}, 41), slices.Repeat([]int{1}, 41) }, api.ErrShape},
	}
	for i := range 3 {
		faults = append(faults, numberFaults(func(x *masking) *int { return &x.rates[i] }, 1, 1000000, api.ErrRange)...)
		faults = append(faults, numberFaults(func(x *masking) *int { return &x.wants[i] }, 1, 1000000, api.ErrRange)...)
		checkLimits(t, validMasking, maskForError, func(x *masking) *int { return &x.rates[i] }, 1, 1000000)
		checkLimits(t, validMasking, maskForError, func(x *masking) *int { return &x.wants[i] }, 1, 1000000)
	}
	checkFaults(t, validMasking, maskForError, faults)
}

func TestP8_3MaskFor(t *testing.T) {
	for _, c := range [][3][]int{
		{{2, 4, 3}, {10, 10, 10}, {1000, 500, 666}},
		{{1}, {1}, {1000}},
		{{1000000}, {1}, {1000}},
		{{1, 1}, {1, 1}, {1000, 1000}},
		{{1, 2, 3}, {7, 14, 21}, {1000, 1000, 1000}},
		{{1, 1, 1}, {1, 2, 3}, {333, 666, 1000}},
		{{1, 1, 1}, {3, 2, 1}, {1000, 666, 333}},
		{{3, 2, 1}, {1, 1, 1}, {333, 500, 1000}},
		{{5, 5, 5}, {2, 2001, 2001}, {0, 1000, 1000}},
		{{1000000, 1}, {1, 1000000}, {0, 1000}},
		{{1, 1000000}, {1000000, 1}, {1000, 0}},
		{{1000000, 999999}, {1000000, 1000000}, {999, 1000}},
		{{1000000, 1000000}, {1000000, 999999}, {1000, 999}},
		{{1, 1}, {1000, 1}, {1000, 1}},
		{{1, 1}, {1001, 1}, {1000, 0}},
	} {
		if l, e := coat.MaskFor(c[0], c[1]); !slices.Equal(l, c[2]) || e != api.OK {
			t.Error(c, l, e)
		}
	}
}

// someGrowth are rates and wants up to a limit.
func someGrowth(random *rand.Rand, most int) ([]int, []int) {
	rates := make([]int, 1+random.IntN(40))
	wants := make([]int, len(rates))
	for i := range rates {
		rates[i], wants[i] = 1+random.IntN(most), 1+random.IntN(most)
	}
	return rates, wants
}

func TestP8_3MaskForExactly(t *testing.T) {
	random := rand.New(rand.NewPCG(8, 33))
	for range 3000 {
		rates, wants := someGrowth(random, []int{5, 1000, 1000000}[random.IntN(3)])
		greatest := new(big.Rat)
		var quotients []*big.Rat
		for i := range rates {
			q := big.NewRat(int64(wants[i]), int64(rates[i]))
			quotients = append(quotients, q)
			if q.Cmp(greatest) > 0 {
				greatest = q
			}
		}
		mask, e := coat.MaskFor(rates, wants)
		if e != api.OK || len(mask) != len(rates) {
			t.Fatal(rates, wants, mask, e)
		}
		for i, q := range quotients {
			part := new(big.Rat).Quo(q, greatest)
			if want := around(new(big.Int).Mul(part.Num(), big.NewInt(1000)), part.Denom()).Lo; mask[i] != want {
				t.Fatal(rates, wants, i, mask[i], want)
			}
		}
	}
}

func TestP8_8OpenMask(t *testing.T) {
	random := rand.New(rand.NewPCG(8, 89))
	for range 1000 {
		lo := random.IntN(1000000000000001)
		x := span(lo, lo+random.IntN(1000000000000001-lo))
		zones := 1 + random.IntN(40)
		l, e := coat.Through(x, slices.Repeat([]int{1000}, zones))
		if !slices.Equal(l, slices.Repeat([]api.Range{x}, zones)) || e != api.OK {
			t.Fatal(x, zones, l, e)
		}
	}
}

func TestP8_9FullyOpen(t *testing.T) {
	random := rand.New(rand.NewPCG(8, 9))
	for range 2000 {
		rates, wants := someGrowth(random, []int{3, 1000, 1000000}[random.IntN(3)])
		mask, e := coat.MaskFor(rates, wants)
		if e != api.OK || slices.Max(mask) != 1000 || slices.Min(mask) < 0 {
			t.Fatal(rates, wants, mask, e)
		}
	}
}

func TestP8_9SameMask(t *testing.T) {
	random := rand.New(rand.NewPCG(8, 99))
	multiplied := func(l []int, by int) []int {
		m := slices.Clone(l)
		for i := range m {
			m[i] *= by
		}
		return m
	}
	for range 2000 {
		rates, wants := someGrowth(random, 1000)
		mask, _ := coat.MaskFor(rates, wants)
		a, b := 1+random.IntN(1000), 1+random.IntN(1000)
		for _, by := range [][2]int{{a, a}, {a, 1}, {1, a}, {a, b}} {
			same, e := coat.MaskFor(multiplied(rates, by[0]), multiplied(wants, by[1]))
			if !slices.Equal(mask, same) || e != api.OK {
				t.Fatal(rates, wants, by, mask, same, e)
			}
		}
	}
}

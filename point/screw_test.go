package point_test

import (
	"math/big"
	"math/rand/v2"
	"testing"

	"speculum/api"
	"speculum/point"
)

// screwed is the arguments of all functions of screws, of which valid ones are accepted.
type screwed struct {
	l   [][2]int
	off [2]int
}

func fraction(num, den int) api.Frac {
	return api.Frac{Num: num, Den: den}
}

// ratio is num / den.
func ratio(num, den int) *big.Rat {
	return big.NewRat(int64(num), int64(den))
}

// chapterScrews are the screws of the chapter's examples.
func chapterScrews() [][2]int {
	return [][2]int{{3, 1}, {1, 2}}
}

func validScrewed() screwed {
	return screwed{chapterScrews(), [2]int{5, 5}}
}

func collimateError(t *testing.T, x screwed) api.Errno {
	t.Helper()
	turns, e := point.Collimate(x.l, x.off)
	none(t, e, turns == [2]api.Frac{})
	return e
}

// screwsError is the error of all functions of screws.
func screwsError(t *testing.T, x screwed) api.Errno {
	t.Helper()
	return agree(t, point.CheckScrews(x.l), collimateError(t, x))
}

func screwFaults() []fault[screwed] {
	var l []fault[screwed]
	for _, screws := range [][][2]int{nil, {}, {{3, 1}}, {{1001, 0}}, {{3, 1}, {1, 2}, {4, 4}}, make([][2]int, 3), {{0, 1001}, {1, 2}, {4, 4}}} {
		l = append(l, fault[screwed]{func(x *screwed) { x.l = screws }, api.ErrShape})
	}
	for i := range 2 {
		for j := range 2 {
			l = append(l, numberFaults(func(x *screwed) *int { return &x.l[i][j] }, -1000, 1000, api.ErrRange)...)
		}
	}
	for _, screws := range [][][2]int{
		{{3, 1}, {-6, -2}}, {{3, 1}, {3, 1}}, {{3, 1}, {-3, -1}}, {{6, 4}, {9, 6}}, {{6, -4}, {-9, 6}}, {{0, 5}, {0, -7}}, {{5, 0}, {9, 0}}, {{1000, 1000}, {-1000, -1000}},
		{{0, 0}, {1, 2}}, {{3, 1}, {0, 0}}, {{0, 0}, {0, 0}},
	} {
		l = append(l, fault[screwed]{func(x *screwed) { x.l = [][2]int{screws[0], screws[1]} }, api.ErrZero})
	}
	return l
}

func TestP9_1Faults(t *testing.T) {
	checkFaults(t, validScrewed, screwsError, screwFaults())
	off := screwFaults()
	for i := range 2 {
		off = append(off, numberFaults(func(x *screwed) *int { return &x.off[i] }, -100000, 100000, api.ErrRange)...)
		checkLimits(t, validScrewed, screwsError, func(x *screwed) *int { return &x.off[i] }, -100000, 100000)
		for j := range 2 {
			checkLimits(t, validScrewed, screwsError, func(x *screwed) *int { return &x.l[i][j] }, -1000, 1000)
		}
	}
	checkFaults(t, validScrewed, collimateError, off)
}

func TestP9_1Collimate(t *testing.T) {
	whole := func(a, b int) [2]api.Frac { return [2]api.Frac{fraction(a, 1), fraction(b, 1)} }
	for _, x := range []struct {
		l    [][2]int
		off  [2]int
		want [2]api.Frac
	}{
		{chapterScrews(), [2]int{5, 5}, whole(-1, -2)},
		{chapterScrews(), [2]int{1, 0}, [2]api.Frac{fraction(-2, 5), fraction(1, 5)}},
		{chapterScrews(), [2]int{0, 1}, [2]api.Frac{fraction(1, 5), fraction(-3, 5)}},
		{chapterScrews(), [2]int{0, 0}, whole(0, 0)},
		{[][2]int{{1, 2}, {3, 1}}, [2]int{1, 0}, [2]api.Frac{fraction(1, 5), fraction(-2, 5)}},
		{[][2]int{{-3, -1}, {1, 2}}, [2]int{5, 5}, whole(1, -2)},
		{[][2]int{{1, 0}, {0, 1}}, [2]int{-100000, 100000}, whole(100000, -100000)},
		{[][2]int{{0, 2}, {4, 0}}, [2]int{3, 7}, [2]api.Frac{fraction(-7, 2), fraction(-3, 4)}},
		{[][2]int{{1000, 999}, {999, 998}}, [2]int{100000, -100000}, whole(199700000, -199900000)},
		{[][2]int{{1000, 1000}, {-1000, 1000}}, [2]int{1, 0}, [2]api.Frac{fraction(-1, 2000), fraction(1, 2000)}},
		{[][2]int{{1000, 999}, {-999, 1000}}, [2]int{0, 1}, [2]api.Frac{fraction(-999, 1998001), fraction(-1000, 1998001)}},
	} {
		if turns, e := point.Collimate(x.l, x.off); turns != x.want || e != api.OK {
			t.Error(x, turns, e)
		}
	}
}

// isLowest tells whether a fraction is in lowest terms with a denominator above 0.
func isLowest(f api.Frac) bool {
	return f.Den > 0 && ratio(f.Num, f.Den).Denom().Int64() == int64(f.Den)
}

func TestP9_9Collimated(t *testing.T) {
	random := rand.New(rand.NewPCG(9, 1))
	zeros, fractions := 0, 0
	for range 20000 {
		n := func(most int) int { return random.IntN(2*most+1) - most }
		most := []int{2, 30, 1000}[random.IntN(3)]
		x := screwed{[][2]int{{n(most), n(most)}, {n(most), n(most)}}, [2]int{n(most * 100), n(most * 100)}}
		turns, e := point.Collimate(x.l, x.off)
		if e == api.ErrZero {
			zeros++
			continue
		}
		if e != api.OK || !isLowest(turns[0]) || !isLowest(turns[1]) {
			t.Fatal(x, turns, e)
		}
		if turns[0].Den > 1 {
			fractions++
		}
		for i, off := range x.off {
			sum := ratio(off, 1)
			for j, f := range turns {
				sum.Add(sum, new(big.Rat).Mul(ratio(f.Num, f.Den), ratio(x.l[j][i], 1)))
			}
			if sum.Sign() != 0 {
				t.Fatal(x, turns, sum)
			}
		}
	}
	if zeros < 300 || fractions < 5000 {
		t.Error("too few of a kind", zeros, fractions)
	}
}

// areOnLine tells whether two small moves add up to 0 in some way, but for that of no turns.
func areOnLine(a, b [2]int) bool {
	for p := -3; p <= 3; p++ {
		for q := -3; q <= 3; q++ {
			if (p != 0 || q != 0) && p*a[0]+q*b[0] == 0 && p*a[1]+q*b[1] == 0 {
				return true
			}
		}
	}
	return false
}

// TestP9_1AllSmallScrews goes through all screws with small moves.
func TestP9_1AllSmallScrews(t *testing.T) {
	var moves [][2]int
	for x := -3; x <= 3; x++ {
		for y := -3; y <= 3; y++ {
			moves = append(moves, [2]int{x, y})
		}
	}
	for _, a := range moves {
		for _, b := range moves {
			want := api.OK
			if areOnLine(a, b) {
				want = api.ErrZero
			}
			if e := screwsError(t, screwed{l: [][2]int{a, b}}); e != want {
				t.Fatal(a, b, e, want)
			}
		}
	}
}

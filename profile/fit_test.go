package profile_test

import (
	"math"
	"math/big"
	"math/rand/v2"
	"slices"
	"testing"

	"speculum/api"
	"speculum/profile"
)

// fitted is the arguments of all functions of fits, of which valid ones are accepted.
type fitted struct {
	terms   [][]int
	heights []int
	f       api.TermFit
}

func termFit(den int, nums ...int) api.TermFit {
	return api.TermFit{Nums: nums, Den: den}
}

func validFitted() fitted {
	return fitted{[][]int{{1, 1, 1}, {0, 1, 2}}, []int{1, 2, 4}, termFit(6, 5, 9)}
}

func sameFit(f, g api.TermFit) bool {
	return slices.Equal(f.Nums, g.Nums) && f.Den == g.Den
}

func fitError(t *testing.T, x fitted) api.Errno {
	t.Helper()
	f, e := profile.Fit(x.terms, x.heights)
	none(t, e, f.Nums == nil && f.Den == 0)
	return e
}

func fittedError(t *testing.T, x fitted) api.Errno {
	t.Helper()
	return agree(t, fitError(t, x), profile.CheckFit(x.terms, x.heights, x.f))
}

func shapeFaults() []fault[fitted] {
	return []fault[fitted]{
		{func(x *fitted) { x.terms = nil }, api.ErrShape},
		{func(x *fitted) { x.heights = nil }, api.ErrShape},
		{func(x *fitted) { x.terms, x.heights = [][]int{{}, {}}, nil }, api.ErrShape},
		{func(x *fitted) { x.terms = append(x.terms, []int{1, 2, 4}) }, api.ErrShape},
		{func(x *fitted) { x.heights = append(x.heights, 5) }, api.ErrShape},
		{func(x *fitted) { x.terms, x.heights = [][]int{make([]int, 21), make([]int, 21)}, make([]int, 21) }, api.ErrShape},
		{func(x *fitted) { x.terms = [][]int{{1, 1}, {0, 1, 2}} }, api.ErrShape},
		{func(x *fitted) { x.terms = [][]int{{1, 1, 1, 1}, {0, 1, 2}} }, api.ErrShape},
		{func(x *fitted) { x.terms = [][]int{{101, 1, 1}, {0, 1}} }, api.ErrShape},
		{func(x *fitted) { x.terms = [][]int{{1, 1, 1}, {0, 1, 2, 3}} }, api.ErrShape},
		{func(x *fitted) { x.terms = [][]int{{1, 1, 1}, nil} }, api.ErrShape},
	}
}

func numbersFaults() []fault[fitted] {
	var l []fault[fitted]
	for i := range 2 {
		for zone := range 3 {
			l = append(l, numberFaults(func(x *fitted) *int { return &x.terms[i][zone] }, -100, 100, api.ErrRange)...)
		}
	}
	for zone := range 3 {
		l = append(l, numberFaults(func(x *fitted) *int { return &x.heights[zone] }, -5000, 5000, api.ErrRange)...)
	}
	return l
}

func TestP5_8Faults(t *testing.T) {
	for _, f := range shapeFaults() {
		x := validFitted()
		f.spoil(&x)
		if e := fittedError(t, x); e != f.want {
			t.Error(x, e, f.want)
		}
	}
	// a shape is told before any number
	for _, x := range []fitted{
		{[][]int{{1, 1}, {0, 1}}, []int{5001, 0, 0}, termFit(1, 0, 0)},
		{[][]int{{1}, {0}, {101}}, []int{5001}, termFit(1, 0, 0)},
		{[][]int{{101, 1}, {0}}, []int{0, 0}, termFit(1, 0, 0)},
		{[][]int{{1, 1}, {101}}, []int{0, 0}, termFit(1, 0, 0)},
	} {
		if e := fittedError(t, x); e != api.ErrShape {
			t.Error(x, e)
		}
	}
	checkFaults(t, validFitted, fittedError, slices.Concat(shapeFaults()[:1], shapeFaults()[4:5], numbersFaults()))
	checkFaults(t, validFitted, fittedError, numbersFaults())
	zeros := []fault[fitted]{
		{func(x *fitted) { x.terms = [][]int{{0, 0, 0}} }, api.ErrZero},
		{func(x *fitted) { x.terms = [][]int{{0, 0, 0}, {0, 1, 2}} }, api.ErrZero},
		{func(x *fitted) { x.terms = [][]int{{1, 1, 1}, {0, 0, 0}} }, api.ErrZero},
		{func(x *fitted) { x.terms = [][]int{{0, 0, 0}, {0, 0, 0}} }, api.ErrZero},
		{func(x *fitted) { x.terms = [][]int{{1, 1, 1}, {1, 1, 1}} }, api.ErrZero},
		{func(x *fitted) { x.terms = [][]int{{1, 2, 3}, {2, 4, 6}} }, api.ErrZero},
		{func(x *fitted) { x.terms = [][]int{{-2, -4, -6}, {1, 2, 3}} }, api.ErrZero},
		{func(x *fitted) { x.terms = [][]int{{2, 4, 6}, {3, 6, 9}} }, api.ErrZero}, // a multiple by 3/2
		{func(x *fitted) { x.terms = [][]int{{0, 0, 9}, {0, 0, -1}} }, api.ErrZero},
	}
	checkFaults(t, validFitted, fitError, slices.Concat(shapeFaults()[:1], shapeFaults()[4:5], zeros))
	x := validFitted()
	for _, f := range zeros {
		f.spoil(&x)
		x.heights[0] = 5001
		if e := fitError(t, x); e != api.ErrRange {
			t.Error("a range is told before a zero", x, e)
		}
	}
}

func TestP5_8Limits(t *testing.T) {
	most := slices.Repeat([]int{100}, 20)
	mixed := slices.Clone(most)
	for i := range 10 {
		mixed[i] = -100
	}
	for _, x := range []struct {
		terms   [][]int
		heights []int
		want    api.TermFit
	}{
		{[][]int{{100}}, []int{5000}, termFit(1, 50)},
		{[][]int{{-100}}, []int{5000}, termFit(1, -50)},
		{[][]int{{1}}, []int{-5000}, termFit(1, -5000)},
		{[][]int{most}, slices.Repeat([]int{-5000}, 20), termFit(1, -50)},
		{[][]int{most, mixed}, slices.Repeat([]int{5000}, 20), termFit(1, 50, 0)},
		{[][]int{mixed, most}, slices.Repeat([]int{-4999}, 20), termFit(100, 0, -4999)},
		{[][]int{{1, 0}, {0, 1}}, []int{-5000, 5000}, termFit(1, -5000, 5000)},
		{[][]int{{1, 0}, {1, 1}}, []int{0, 0}, termFit(1, 0, 0)},
		{[][]int{{1}}, []int{0}, termFit(1, 0)},
		{[][]int{{2}}, []int{3}, termFit(2, 3)},
		{[][]int{{-2}}, []int{3}, termFit(2, -3)},
		{[][]int{{1, 1, 1}, {0, 1, 2}}, []int{1, 2, 4}, termFit(6, 5, 9)},
		{[][]int{{0, 1, 2}, {1, 1, 1}}, []int{1, 2, 4}, termFit(6, 9, 5)},
		{[][]int{{1, 1, 1}}, []int{1, 2, 4}, termFit(3, 7)},
		{[][]int{{1, 1, 1}}, []int{1, 2, 3}, termFit(1, 2)},
	} {
		f, e := profile.Fit(x.terms, x.heights)
		if !sameFit(f, x.want) || e != api.OK {
			t.Error(x, f, e)
		}
		if e := profile.CheckFit(x.terms, x.heights, x.want); e != api.OK {
			t.Error(x, e)
		}
	}
}

func TestP5_8CheckFaults(t *testing.T) {
	checkError := func(t *testing.T, x fitted) api.Errno {
		return profile.CheckFit(x.terms, x.heights, x.f)
	}
	checkFaults(t, validFitted, checkError, slices.Concat(
		numbersFaults(),
		[]fault[fitted]{
			{func(x *fitted) { x.f.Nums = nil }, api.ErrShape},
			{func(x *fitted) { x.f.Nums = x.f.Nums[:1] }, api.ErrShape},
			{func(x *fitted) { x.f.Nums = append(x.f.Nums, 0) }, api.ErrShape},
		},
	))
	checkFaults(t, validFitted, checkError, slices.Concat(
		numberFaults(func(x *fitted) *int { return &x.f.Den }, 1, 100000000000, api.ErrRange),
		numberFaults(func(x *fitted) *int { return &x.f.Nums[0] }, -10000000000000, 10000000000000, api.ErrRange),
		numberFaults(func(x *fitted) *int { return &x.f.Nums[1] }, -10000000000000, 10000000000000, api.ErrRange),
		[]fault[fitted]{
			{func(x *fitted) { x.f = termFit(-6, -5, -9) }, api.ErrRange},
			{func(x *fitted) { x.f = termFit(0, 0, 0) }, api.ErrRange},
			{func(x *fitted) { x.f = termFit(12, 10, 18) }, api.ErrForm},
			{func(x *fitted) { x.f = termFit(3, 0, 0) }, api.ErrForm},
			{func(x *fitted) { x.f = termFit(6, -3, 9) }, api.ErrForm},
			{func(x *fitted) { x.f = termFit(4, 6, 0) }, api.ErrForm},
			{func(x *fitted) { x.f = termFit(100000000000, 10000000000000, -10000000000000) }, api.ErrForm},
			{func(x *fitted) { x.f = termFit(6, 5, 8) }, api.ErrProof},
			{func(x *fitted) { x.f = termFit(6, 4, 9) }, api.ErrProof},
			{func(x *fitted) { x.f = termFit(5, 5, 9) }, api.ErrProof},
			{func(x *fitted) { x.f = termFit(7, 5, 9) }, api.ErrProof},
			{func(x *fitted) { x.f = termFit(6, 9, 5) }, api.ErrProof},
			{func(x *fitted) { x.f = termFit(6, -5, -9) }, api.ErrProof},
			{func(x *fitted) { x.f = termFit(1, 0, 0) }, api.ErrProof},
		},
	))
	for _, x := range []struct {
		x    fitted
		want api.Errno
	}{
		// a fit need not be the only one
		{fitted{[][]int{{0}}, []int{7}, termFit(100000000000, 9999999999999)}, api.OK},
		{fitted{[][]int{{0, 0}}, []int{7, 8}, termFit(1, -10000000000000)}, api.OK},
		{fitted{[][]int{{0, 0}}, []int{7, 8}, termFit(2, -10000000000000)}, api.ErrForm},
		{fitted{[][]int{{1, 1}, {2, 2}}, []int{7, 9}, termFit(1, 8, 0)}, api.OK},
		{fitted{[][]int{{1, 1}, {2, 2}}, []int{7, 9}, termFit(1, 6, 1)}, api.OK},
		{fitted{[][]int{{1, 1}, {2, 2}}, []int{7, 9}, termFit(1, 7, 1)}, api.ErrProof},
		{fitted{[][]int{{1, 1}, {1, 1}}, []int{5000, 5000}, termFit(1, 10000000000000, 5000-10000000000000)}, api.OK},
		{fitted{[][]int{{1, 1}, {1, 1}}, []int{5000, 5000}, termFit(1, 10000000000000, -10000000000000)}, api.ErrProof},
		{fitted{[][]int{{1, 0}, {0, 1}}, []int{0, 1}, termFit(1, 0, 1)}, api.OK},
		// only one of the two sums is 0
		{fitted{[][]int{{1, 0}, {0, 1}}, []int{0, 1}, termFit(1, 0, 0)}, api.ErrProof},
		{fitted{[][]int{{1, 0}, {0, 1}}, []int{1, 0}, termFit(1, 0, 0)}, api.ErrProof},
		{fitted{[][]int{{1}}, []int{0}, termFit(100000000000, 1)}, api.ErrProof},
		{fitted{[][]int{{1}}, []int{0}, termFit(1, math.MinInt)}, api.ErrRange},
		{fitted{[][]int{{1}}, []int{0}, termFit(1, 0, 0)}, api.ErrShape},
		{fitted{[][]int{{1}}, []int{0}, termFit(0, 0, 0)}, api.ErrShape},
	} {
		if e := profile.CheckFit(x.x.terms, x.x.heights, x.x.f); e != x.want {
			t.Error(x, e)
		}
	}
}

// product is the sum of the products of a term and what a fit leaves of heights.
func product(x fitted, term []int) *big.Rat {
	of := new(big.Rat)
	for zone, height := range x.heights {
		left := ratio(height, 1)
		for i, other := range x.terms {
			left.Sub(left, new(big.Rat).Mul(ratio(x.f.Nums[i], x.f.Den), ratio(other[zone], 1)))
		}
		of = sum(of, left.Mul(left, ratio(term[zone], 1)))
	}
	return of
}

// isFit tells whether a fit is one, by the definition.
func isFit(x fitted) bool {
	return !slices.ContainsFunc(x.terms, func(term []int) bool { return product(x, term).Sign() != 0 })
}

// squares is the sum of the squares of what a fit leaves of heights.
func squares(x fitted) *big.Rat {
	of := product(x, x.heights)
	for i, term := range x.terms {
		of = sum(of, minus(new(big.Rat).Mul(product(x, term), ratio(x.f.Nums[i], x.f.Den))))
	}
	return of
}

// isLowest tells whether the numbers of a fit have no common divisor above 1.
func isLowest(f api.TermFit) bool {
	of := big.NewInt(int64(f.Den))
	for _, n := range f.Nums {
		of.GCD(nil, nil, of, big.NewInt(int64(max(n, -n))))
	}
	return of.Cmp(big.NewInt(1)) == 0
}

// areMultiples tells whether a term is 0 everywhere, or a multiple of another one.
func areMultiples(terms [][]int) bool {
	isZero := func(n int) bool { return n == 0 }
	for _, term := range terms {
		if !slices.ContainsFunc(term, func(n int) bool { return !isZero(n) }) {
			return true
		}
	}
	for i := range terms[0] {
		for j := range terms[0] {
			if len(terms) == 2 && terms[0][i]*terms[1][j] != terms[0][j]*terms[1][i] {
				return false
			}
		}
	}
	return len(terms) == 2
}

func someFitted(random *rand.Rand) fitted {
	zones := 1 + random.IntN([]int{3, 20}[random.IntN(2)])
	most := []int{1, 5, 100}[random.IntN(3)]
	x := fitted{heights: someValues(random, zones, []int{3, 5000}[random.IntN(2)])}
	for range 1 + random.IntN(2) {
		x.terms = append(x.terms, someValues(random, zones, most))
	}
	if random.IntN(6) == 0 && len(x.terms) == 2 {
		by := random.IntN(5) - 2
		for zone, n := range x.terms[0] {
			x.terms[1][zone] = max(-100, min(100, n*by))
		}
	}
	return x
}

func TestP5_8AgainstBig(t *testing.T) {
	random := rand.New(rand.NewPCG(5, 8))
	zeros, fits, mostDen := 0, 0, 0
	for range 6000 {
		x := someFitted(random)
		f, e := profile.Fit(x.terms, x.heights)
		if areMultiples(x.terms) {
			if zeros++; f.Nums != nil || f.Den != 0 || e != api.ErrZero {
				t.Fatal(x, f, e)
			}
			continue
		}
		x.f = f
		if len(f.Nums) != len(x.terms) || f.Den < 1 || e != api.OK || !isFit(x) || !isLowest(f) {
			t.Fatal(x, e)
		}
		fits, mostDen = fits+1, max(mostDen, f.Den)
		if e := profile.CheckFit(x.terms, x.heights, f); e != api.OK {
			t.Fatal(x, e)
		}
		best := squares(x)
		for i := range f.Nums {
			y := x
			y.f.Nums = slices.Clone(f.Nums)
			y.f.Nums[i] += 1 - 2*random.IntN(2)
			if squares(y).Cmp(best) <= 0 {
				t.Fatal("no least squares", x, y)
			}
			want := api.ErrProof
			if !isLowest(y.f) {
				want = api.ErrForm
			}
			if e := profile.CheckFit(y.terms, y.heights, y.f); e != want {
				t.Fatal(y, e, want)
			}
		}
	}
	if zeros < 300 || fits < 3000 || mostDen < 1000000000 {
		t.Error("too few of a kind", zeros, fits, mostDen)
	}
}

// TestP5_8GreatSums checks fits with numbers that are as great as possible: no sum goes beyond its limits.
func TestP5_8GreatSums(t *testing.T) {
	random := rand.New(rand.NewPCG(8, 5))
	for range 3000 {
		x := fitted{f: termFit(100000000000 - random.IntN(3))}
		for range 1 + random.IntN(2) {
			x.terms = append(x.terms, nil)
			x.f.Nums = append(x.f.Nums, (10000000000000-random.IntN(3))*(2*random.IntN(2)-1))
		}
		for range 20 {
			x.heights = append(x.heights, 5000*(2*random.IntN(2)-1))
			for i := range x.terms {
				x.terms[i] = append(x.terms[i], 100*[]int{-1, 1, 1, 1, 1, 1, 1, 1}[random.IntN(8)])
			}
		}
		want := api.OK
		if !isLowest(x.f) {
			want = api.ErrForm
		} else if !isFit(x) {
			want = api.ErrProof
		}
		if e := profile.CheckFit(x.terms, x.heights, x.f); e != want {
			t.Fatal(x, e, want)
		}
	}
}

func TestP5_14Sums(t *testing.T) {
	random := rand.New(rand.NewPCG(5, 14))
	fits := 0
	for range 5000 {
		x := someFitted(random)
		if areMultiples(x.terms) {
			continue
		}
		numbers := someValues(random, len(x.terms), 25)
		for zone := range x.heights {
			x.heights[zone] = 0
			for i, n := range numbers {
				x.heights[zone] += n * x.terms[i][zone]
			}
		}
		fits++
		if f, e := profile.Fit(x.terms, x.heights); !sameFit(f, api.TermFit{Nums: numbers, Den: 1}) || e != api.OK {
			t.Fatal(x, f, e, numbers)
		}
		if e := profile.CheckFit(x.terms, x.heights, api.TermFit{Nums: numbers, Den: 1}); e != api.OK {
			t.Fatal(x, e, numbers)
		}
	}
	if fits < 3000 {
		t.Error("too few", fits)
	}
}

package number_test

import (
	"math"
	"math/big"
	"slices"
	"testing"

	"speculum/api"
	"speculum/number"
)

// wrong are polynomials with their errors.
var wrong = []struct {
	p []int
	e api.Errno
}{
	{nil, api.ErrShape},
	{[]int{}, api.ErrShape},
	{[]int{1, 2, 3, 4, 5, 6, 7, 8}, api.ErrShape},
	{make([]int, 1000), api.ErrShape},
	{[]int{0}, api.ErrForm},
	{[]int{1, 0}, api.ErrForm},
	{[]int{api.MaxCoef + 1}, api.ErrRange},
	{[]int{-api.MaxCoef - 1, 1}, api.ErrRange},
	{[]int{math.MinInt, 0}, api.ErrRange},
	{[]int{math.MaxInt, 1}, api.ErrRange},
	{[]int{0, 0, 0, 0, 0, 0, math.MinInt}, api.ErrRange},
}

func TestP1_5CheckPoly(t *testing.T) {
	for _, c := range wrong {
		if e := number.CheckPoly(c.p); e != c.e {
			t.Error(c.p, e)
		}
	}
	for _, p := range [][]int{{1}, {-1}, {0, 1}, {0, 0, 0, 0, 0, 0, 1}, {-api.MaxCoef, 1, 2, 3, 4, 5, api.MaxCoef}} {
		if e := number.CheckPoly(p); e != api.OK {
			t.Error(p, e)
		}
	}
}

func TestP1_5ErrorsInOrder(t *testing.T) {
	none, good := frac(2, 4), frac(1, 2)
	for _, c := range wrong {
		if s, e := number.SignAt(c.p, none); s != 0 || e != c.e {
			t.Error("SignAt", c.p, s, e)
		}
		if d, e := number.Derivative(c.p); len(d) != 0 || e != c.e {
			t.Error("Derivative", c.p, d, e)
		}
		if q, e := number.Times(c.p, nil); len(q) != 0 || e != c.e {
			t.Error("Times", c.p, q, e)
		}
		if q, e := number.Times([]int{1}, c.p); len(q) != 0 || e != c.e {
			t.Error("Times", c.p, q, e)
		}
		if n, e := number.RootsIn(c.p, none, good); n != 0 || e != c.e {
			t.Error("RootsIn", c.p, n, e)
		}
		if r, e := number.RootIn(c.p, none, good, 0); r != (api.Range{}) || e != c.e {
			t.Error("RootIn", c.p, r, e)
		}
	}
	if s, e := number.SignAt([]int{1}, none); s != 0 || e != api.ErrForm {
		t.Error(s, e)
	}
	if s, e := number.SignAt([]int{1}, frac(1, part+1)); s != 0 || e != api.ErrRange {
		t.Error(s, e)
	}
}

// valueAt is the value of p, computed with fractions of any size.
func valueAt(p []int, x *big.Rat) *big.Rat {
	value := new(big.Rat)
	for _, c := range slices.Backward(p) {
		value.Mul(value, x)
		value.Add(value, big.NewRat(int64(c), 1))
	}
	return value
}

func TestP1_5SignAt(t *testing.T) {
	p := []int{-2, 0, 1}
	for x, want := range map[api.Frac]int{frac(1, 1): -1, frac(3, 2): 1, frac(-3, 2): 1, frac(0, 1): -1} {
		if s, e := number.SignAt(p, x); s != want || e != api.OK {
			t.Error(x, s, e)
		}
	}
	polys := [][]int{{5}, {-5}, {0, 1}, {0, 0, 0, 0, 0, 0, -1}, {-2, 3}, {1, -2, 1}, {-1, 3, -3, 1},
		{api.MaxCoef, -api.MaxCoef, api.MaxCoef, -api.MaxCoef, api.MaxCoef, -api.MaxCoef, api.MaxCoef},
		{-api.MaxCoef, 0, 0, 0, 0, 0, api.MaxCoef}, {1, 0, 0, 0, 0, 0, -api.MaxCoef}, {-999999, 0, 0, 0, 0, api.MaxCoef, 1}}
	for _, p := range polys {
		for _, x := range fracs() {
			want, e2 := 0, fracError(x)
			if e2 == api.OK {
				want = valueAt(p, rat(x)).Sign()
			}
			if s, e := number.SignAt(p, x); s != want || e != e2 {
				t.Fatal(p, x, s, e, want, e2)
			}
		}
	}
	// So near to the root that the value is less than 10^-17 of its parts.
	for x, want := range map[api.Frac]int{frac(768398401, 543339720): 1, frac(318281039, 225058681): -1} {
		if s, _ := number.SignAt(p, x); s != want {
			t.Error(x, s)
		}
	}
}

func TestP1_5Derivative(t *testing.T) {
	for _, c := range []struct {
		p, want []int
		e       api.Errno
	}{
		{[]int{0, 0, 1}, []int{0, 2}, api.OK},
		{[]int{7, -3}, []int{-3}, api.OK},
		{[]int{1, 1, 1, 1, 1, 1, 1}, []int{1, 2, 3, 4, 5, 6}, api.OK},
		{[]int{7}, nil, api.ErrZero},
		{[]int{0, 0, 500000}, []int{0, 1000000}, api.OK},
		{[]int{0, 0, 500001}, nil, api.ErrLarge},
		{[]int{0, 0, -500001, 1}, nil, api.ErrLarge},
		{[]int{api.MaxCoef, api.MaxCoef}, []int{api.MaxCoef}, api.OK},
		{[]int{0, 0, 0, 0, 0, 0, -166666}, []int{0, 0, 0, 0, 0, -999996}, api.OK},
		{[]int{0, 0, 0, 0, 0, 0, 166667}, nil, api.ErrLarge},
	} {
		if d, e := number.Derivative(c.p); !slices.Equal(d, c.want) || e != c.e {
			t.Error(c.p, d, e)
		}
	}
}

func TestP1_5Times(t *testing.T) {
	for _, c := range []struct {
		p, q, want []int
		e          api.Errno
	}{
		{[]int{-1, 1}, []int{1, 1}, []int{-1, 0, 1}, api.OK},
		{[]int{-3}, []int{2, 0, 1}, []int{-6, 0, -3}, api.OK},
		{[]int{1, 1, 1}, []int{1, 2, 3, 4, 5}, []int{1, 3, 6, 9, 12, 9, 5}, api.OK},
		{[]int{0, 0, 0, 1}, []int{0, 0, 0, 1}, []int{0, 0, 0, 0, 0, 0, 1}, api.OK},
		{[]int{0, 0, 0, 1}, []int{0, 0, 0, 0, 1}, nil, api.ErrLarge},
		{[]int{0, 0, 0, 0, 0, 0, 1}, []int{0, 0, 0, 0, 0, 0, 1}, nil, api.ErrLarge},
		{[]int{1000}, []int{-1000}, []int{-1000000}, api.OK},
		{[]int{1000}, []int{1, 1001}, nil, api.ErrLarge},
		{[]int{1000, 1}, []int{1000, 1}, []int{1000000, 2000, 1}, api.OK},
		{[]int{500001, 1}, []int{2, 1}, nil, api.ErrLarge},
		{[]int{api.MaxCoef, 1}, []int{-1, api.MaxCoef}, nil, api.ErrLarge},
		{[]int{999, 1000}, []int{1000, 1}, []int{999000, 1000999, 1000}, api.ErrLarge},
	} {
		if c.e != api.OK {
			c.want = nil
		}
		if q, e := number.Times(c.p, c.q); !slices.Equal(q, c.want) || e != c.e {
			t.Error(c.p, c.q, q, e)
		}
	}
}

func TestP1_5ResultsAreNew(t *testing.T) {
	p, q := []int{-6, 11, -6, 1}, []int{1}
	for range 2 {
		d, _ := number.Derivative(p)
		x, _ := number.Times(p, q)
		if !slices.Equal(d, []int{11, -12, 3}) || !slices.Equal(x, p) {
			t.Fatal(d, x)
		}
		clear(d)
		clear(x)
		number.SignAt(p, frac(1, 2))
		number.RootIn(p, frac(0, 1), frac(3, 2), 10)
		if !slices.Equal(p, []int{-6, 11, -6, 1}) || !slices.Equal(q, []int{1}) {
			t.Fatal(p, q)
		}
	}
}

package number_test

import (
	"math"
	"math/big"
	"testing"

	"speculum/api"
	"speculum/number"
)

// ends are ends of ranges at and beside the limits, and ordinary ones.
var ends = []int{math.MinInt, -most - 1, -most, -most + 1, -31622777, -31622776, -7, -1, 0, 1, 3, 31622776, 31622777, most - 1, most, most + 1, math.MaxInt}

func ranges() []api.Range {
	var l []api.Range
	for _, lo := range ends {
		for _, hi := range ends {
			l = append(l, span(lo, hi))
		}
	}
	return l
}

func beyond(n int) bool { return n < -most || n > most }

func rangeError(r api.Range) api.Errno {
	switch {
	case beyond(r.Lo) || beyond(r.Hi):
		return api.ErrRange
	case r.Lo > r.Hi:
		return api.ErrOrder
	}
	return api.OK
}

// fitting is a range with these ends, or ErrLarge.
func fitting(lo, hi *big.Int) (api.Range, api.Errno) {
	limit := big.NewInt(most)
	if lo.CmpAbs(limit) > 0 || hi.CmpAbs(limit) > 0 {
		return api.Range{}, api.ErrLarge
	}
	return span(int(lo.Int64()), int(hi.Int64())), api.OK
}

// hull is from the least of some numbers to the greatest one.
func hull(l ...*big.Int) (api.Range, api.Errno) {
	lo, hi := l[0], l[0]
	for _, n := range l {
		if n.Cmp(lo) < 0 {
			lo = n
		}
		if n.Cmp(hi) > 0 {
			hi = n
		}
	}
	return fitting(lo, hi)
}

func TestP1_3CheckRange(t *testing.T) {
	for _, r := range ranges() {
		if e := number.CheckRange(r); e != rangeError(r) {
			t.Error(r, e)
		}
	}
	for r, want := range map[api.Range]api.Errno{
		span(-most, most): api.OK, span(2, 2): api.OK, span(2, 1): api.ErrOrder, span(most+1, 0): api.ErrRange,
		span(0, -most-1): api.ErrRange, span(math.MinInt, math.MinInt): api.ErrRange,
	} {
		if e := number.CheckRange(r); e != want {
			t.Error(r, e)
		}
	}
}

func TestP1_3Examples(t *testing.T) {
	for _, c := range []struct {
		f          func(a, b api.Range) (api.Range, api.Errno)
		a, b, want api.Range
		e          api.Errno
	}{
		{number.Plus, span(1, 4), span(-2, 3), span(-1, 7), api.OK},
		{number.Plus, span(0, most), span(0, 1), span(0, 0), api.ErrLarge},
		{number.Plus, span(-most, most), span(-most, -most), span(0, 0), api.ErrLarge},
		{number.Minus, span(1, 4), span(2, 3), span(-2, 2), api.OK},
		{number.Minus, span(-most, 0), span(0, 1), span(0, 0), api.ErrLarge},
		{number.Product, span(-2, 3), span(-1, 4), span(-8, 12), api.OK},
		{number.Product, span(-1, 1), span(-1, 1), span(-1, 1), api.OK},
		{number.Product, span(-3, -2), span(-5, -4), span(8, 15), api.OK},
		{number.Product, span(most, most), span(0, 0), span(0, 0), api.OK},
		{number.Product, span(31622776, 31622776), span(31622776, 31622776), span(31622776*31622776, 31622776*31622776), api.OK},
		{number.Product, span(31622777, 31622777), span(31622777, 31622777), span(0, 0), api.ErrLarge},
		{number.Meet, span(1, 4), span(3, 8), span(3, 4), api.OK},
		{number.Meet, span(1, 4), span(4, 8), span(4, 4), api.OK},
		{number.Meet, span(1, 4), span(5, 8), span(0, 0), api.ErrNone},
		{number.Meet, span(5, 8), span(1, 4), span(0, 0), api.ErrNone},
		{number.Hull, span(1, 2), span(7, 8), span(1, 8), api.OK},
		{number.Hull, span(-1, 9), span(7, 8), span(-1, 9), api.OK},
	} {
		if r, e := c.f(c.a, c.b); r != c.want || e != c.e {
			t.Error(c.a, c.b, r, e, c.want)
		}
	}
}

func TestP1_3PairsOfRanges(t *testing.T) {
	all := ranges()
	for _, a := range all {
		for _, b := range all {
			first := rangeError(a)
			if first == api.OK {
				first = rangeError(b)
			}
			for i, f := range []func(a, b api.Range) (api.Range, api.Errno){number.Plus, number.Minus, number.Product, number.Meet, number.Hull} {
				got, e := f(a, b)
				want, e2 := api.Range{}, first
				if e2 == api.OK {
					want, e2 = ofPair(i, a, b)
				}
				if got != want || e != e2 {
					t.Fatal(i, a, b, got, e, want, e2)
				}
			}
		}
	}
}

// ofPair is what a function of two valid ranges is to return.
func ofPair(i int, a, b api.Range) (api.Range, api.Errno) {
	whole := func(n int) *big.Int { return big.NewInt(int64(n)) }
	var l []*big.Int
	for _, x := range []int{a.Lo, a.Hi} {
		for _, y := range []int{b.Lo, b.Hi} {
			switch i {
			case 0:
				l = append(l, new(big.Int).Add(whole(x), whole(y)))
			case 1:
				l = append(l, new(big.Int).Sub(whole(x), whole(y)))
			case 2:
				l = append(l, new(big.Int).Mul(whole(x), whole(y)))
			case 4:
				l = append(l, whole(x), whole(y))
			}
		}
	}
	if i != 3 {
		return hull(l...)
	}
	if a.Lo > b.Hi || b.Lo > a.Hi {
		return api.Range{}, api.ErrNone
	}
	return span(max(a.Lo, b.Lo), min(a.Hi, b.Hi)), api.OK
}

func TestP1_3Scaled(t *testing.T) {
	if r, e := number.Scaled(span(-3, 5), frac(-2, 3)); r != span(-4, 2) || e != api.OK {
		t.Error(r, e)
	}
	if r, e := number.Scaled(span(most, most), frac(part-1, part)); r != span(999999999000000, 999999999000000) || e != api.OK {
		t.Error(r, e)
	}
	// Half beyond the limit.
	for _, c := range []struct {
		r  api.Range
		by api.Frac
	}{{span(0, 666666666666667), frac(3, 2)}, {span(0, 666666666666667), frac(-3, 2)}, {span(-666666666666667, 0), frac(3, 2)}} {
		if r, e := number.Scaled(c.r, c.by); r != (api.Range{}) || e != api.ErrLarge {
			t.Error(c, r, e)
		}
	}
	for _, r := range ranges() {
		for _, by := range fracs() {
			got, e := number.Scaled(r, by)
			want, e2 := api.Range{}, rangeError(r)
			if e2 == api.OK {
				e2 = fracError(by)
			}
			if e2 == api.OK {
				lo, up := around(new(big.Rat).Mul(big.NewRat(int64(r.Lo), 1), rat(by)))
				down, hi := around(new(big.Rat).Mul(big.NewRat(int64(r.Hi), 1), rat(by)))
				want, e2 = hull(lo, up, down, hi)
			}
			if got != want || e != e2 {
				t.Fatal(r, by, got, e, want, e2)
			}
		}
	}
}

func TestP1_7Ranges(t *testing.T) {
	near := []api.Range{}
	for lo := -4; lo <= 4; lo++ {
		for hi := lo; hi <= 4; hi++ {
			near = append(near, span(lo, hi))
		}
	}
	for i, f := range []func(a, b api.Range) (api.Range, api.Errno){number.Plus, number.Product} {
		for _, wide := range near {
			for _, b := range near {
				outer, _ := f(wide, b)
				for _, a := range near {
					inner, e := f(a, b)
					if swapped, _ := f(b, a); e != api.OK || swapped != inner {
						t.Fatal(i, a, b, inner, swapped, e)
					}
					within := a.Lo >= wide.Lo && a.Hi <= wide.Hi
					if within && (inner.Lo < outer.Lo || inner.Hi > outer.Hi) {
						t.Fatal(i, a, wide, b, inner, outer)
					}
				}
			}
		}
	}
}

package number_test

import (
	"math"
	"math/big"
	"testing"

	"speculum/api"
	"speculum/number"
)

const part, most = api.MaxPart, api.MaxNumber

// parts are numerators and denominators at and beside the limits, and ordinary ones.
var parts = []int{math.MinInt, math.MinInt + 1, -part - 1, -part, -part + 1, -30, -7, -1, 0, 1, 2, 3, 6, 12, 31623, part - 1, part, part + 1, math.MaxInt}

func frac(num, den int) api.Frac { return api.Frac{Num: num, Den: den} }

func span(lo, hi int) api.Range { return api.Range{Lo: lo, Hi: hi} }

func rat(f api.Frac) *big.Rat { return big.NewRat(int64(f.Num), int64(f.Den)) }

// fracs are all fractions of parts.
func fracs() []api.Frac {
	var l []api.Frac
	for _, num := range parts {
		for _, den := range parts {
			l = append(l, frac(num, den))
		}
	}
	return l
}

// fracError is what CheckFrac is to return, computed with numbers of any size.
func fracError(f api.Frac) api.Errno {
	num, den := big.NewInt(int64(f.Num)), big.NewInt(int64(f.Den))
	size := new(big.Int).Abs(num)
	switch {
	case den.Sign() <= 0 || new(big.Int).GCD(nil, nil, size, den).Cmp(big.NewInt(1)) != 0:
		return api.ErrForm
	case size.Cmp(big.NewInt(part)) > 0 || den.Cmp(big.NewInt(part)) > 0:
		return api.ErrRange
	}
	return api.OK
}

// small is r as a fraction, or ErrLarge.
func small(r *big.Rat) (api.Frac, api.Errno) {
	limit := big.NewInt(part)
	if r.Num().CmpAbs(limit) > 0 || r.Denom().Cmp(limit) > 0 {
		return api.Frac{}, api.ErrLarge
	}
	return frac(int(r.Num().Int64()), int(r.Denom().Int64())), api.OK
}

// around is r, rounded down and up.
func around(r *big.Rat) (lo, hi *big.Int) {
	lo, rest := new(big.Int).DivMod(r.Num(), r.Denom(), new(big.Int))
	hi = new(big.Int).Set(lo)
	if rest.Sign() > 0 {
		hi.Add(hi, big.NewInt(1))
	}
	return lo, hi
}

func TestP1_1CheckFrac(t *testing.T) {
	for _, f := range fracs() {
		if e := number.CheckFrac(f); e != fracError(f) {
			t.Error(f, e)
		}
	}
	for f, want := range map[api.Frac]api.Errno{
		frac(0, 1): api.OK, frac(0, 2): api.ErrForm, frac(0, 0): api.ErrForm, frac(1, 0): api.ErrForm,
		frac(1, -2): api.ErrForm, frac(-2, 4): api.ErrForm, frac(part+1, 1): api.ErrRange, frac(1, part+1): api.ErrRange,
		frac(2*part+2, 2): api.ErrForm, frac(math.MinInt, 1): api.ErrRange, frac(math.MinInt, 2): api.ErrForm,
		frac(1, math.MinInt): api.ErrForm, frac(part, part-1): api.OK, frac(-part, 1): api.OK,
	} {
		if e := number.CheckFrac(f); e != want {
			t.Error(f, e, want)
		}
	}
}

func TestP1_1Examples(t *testing.T) {
	a, b := frac(1, 2), frac(1, 3)
	for i, f := range []func(a, b api.Frac) (api.Frac, api.Errno){number.Add, number.Sub, number.Mul, number.Quo} {
		want := []api.Frac{frac(5, 6), frac(1, 6), frac(1, 6), frac(3, 2)}[i]
		if got, e := f(a, b); got != want || e != api.OK {
			t.Error(i, got, e)
		}
	}
	if r, e := number.Whole(frac(-7, 3), 2); r != span(-5, -4) || e != api.OK {
		t.Error(r, e)
	}
}

// exact is what a function of two fractions is to return.
func exact(i int, a, b api.Frac) (api.Frac, api.Errno) {
	for _, f := range []api.Frac{a, b} {
		if e := fracError(f); e != api.OK {
			return api.Frac{}, e
		}
	}
	r := new(big.Rat)
	switch i {
	case 0:
		return small(r.Add(rat(a), rat(b)))
	case 1:
		return small(r.Sub(rat(a), rat(b)))
	case 2:
		return small(r.Mul(rat(a), rat(b)))
	}
	if b.Num == 0 {
		return api.Frac{}, api.ErrZero
	}
	return small(r.Quo(rat(a), rat(b)))
}

func TestP1_1Arithmetic(t *testing.T) {
	all := fracs()
	for _, a := range all {
		for _, b := range all {
			for i, f := range []func(a, b api.Frac) (api.Frac, api.Errno){number.Add, number.Sub, number.Mul, number.Quo} {
				got, e := f(a, b)
				if want, e2 := exact(i, a, b); got != want || e != e2 {
					t.Fatal(i, a, b, got, e, want, e2)
				}
			}
			want := 0
			_, e2 := exact(0, a, b)
			if e2 == api.OK || e2 == api.ErrLarge {
				want, e2 = rat(a).Cmp(rat(b)), api.OK
			}
			if got, e := number.Cmp(a, b); got != want || e != e2 {
				t.Fatal("Cmp", a, b, got, e)
			}
		}
	}
}

func TestP1_1LargeIsOfTheResultAlone(t *testing.T) {
	// The products on the way are beyond the limits, the results are not.
	if f, e := number.Mul(frac(part, 999999937), frac(999999937, part-1)); f != frac(part, part-1) || e != api.OK {
		t.Error(f, e)
	}
	if f, e := number.Add(frac(part-1, part), frac(1, part)); f != frac(1, 1) || e != api.OK {
		t.Error(f, e)
	}
	if f, e := number.Add(frac(1, part), frac(1, part-1)); f != (api.Frac{}) || e != api.ErrLarge {
		t.Error(f, e)
	}
	if f, e := number.Quo(frac(1, part), frac(-1, 1)); f != frac(-1, part) || e != api.OK {
		t.Error(f, e)
	}
}

func TestP1_1Whole(t *testing.T) {
	for _, f := range fracs() {
		for _, times := range []int{math.MinInt, -1, 0, 1, 2, 7, 999983, api.MaxTimes, api.MaxTimes + 1, math.MaxInt} {
			got, e := number.Whole(f, times)
			want, e2 := api.Range{}, fracError(f)
			if e2 == api.OK && (times < 1 || times > api.MaxTimes) {
				e2 = api.ErrRange
			}
			if e2 == api.OK {
				lo, hi := around(new(big.Rat).Mul(rat(f), big.NewRat(int64(times), 1)))
				want = span(int(lo.Int64()), int(hi.Int64()))
			}
			if got != want || e != e2 {
				t.Fatal(f, times, got, e, want, e2)
			}
		}
	}
}

func TestP1_2Sqrt(t *testing.T) {
	if r, e := number.Sqrt(frac(2, 1), 1000); r != span(1414, 1415) || e != api.OK {
		t.Error(r, e)
	}
	if r, e := number.Sqrt(frac(9, 4), 2); r != span(3, 3) || e != api.OK {
		t.Error(r, e)
	}
	if r, e := number.Sqrt(frac(0, 1), 10000); r != span(0, 0) || e != api.OK {
		t.Error(r, e)
	}
	for _, f := range fracs() {
		for _, times := range []int{math.MinInt, -1, 0, 1, 2, 9999, 10000, 10001, math.MaxInt} {
			r, e := number.Sqrt(f, times)
			want := fracError(f)
			if want == api.OK && (f.Num < 0 || times < 1 || times > 10000) {
				want = api.ErrRange
			}
			if e != want || e != api.OK && r != (api.Range{}) {
				t.Fatal(f, times, r, e)
			}
			if e == api.OK {
				checkSquare(t, new(big.Rat).Mul(rat(f), big.NewRat(int64(times)*int64(times), 1)), r)
			}
		}
	}
}

// checkSquare checks that r is the square root of a number, rounded down and up.
func checkSquare(t *testing.T, of *big.Rat, r api.Range) {
	t.Helper()
	square := func(n int) *big.Rat {
		b := new(big.Int).SetInt64(int64(n))
		return new(big.Rat).SetInt(b.Mul(b, b))
	}
	if r.Lo < 0 || square(r.Lo).Cmp(of) > 0 || square(r.Lo+1).Cmp(of) <= 0 {
		t.Error("Lo", of, r)
	}
	if square(r.Hi).Cmp(of) < 0 || r.Hi > 0 && square(r.Hi-1).Cmp(of) >= 0 {
		t.Error("Hi", of, r)
	}
}

func TestP1_2SqrtOfSquares(t *testing.T) {
	for num := range 60 {
		for den := 1; den < 60; den++ {
			f, _ := small(big.NewRat(int64(num*num), int64(den*den)))
			if r, e := number.Sqrt(f, 60*den); r != span(60*num, 60*num) || e != api.OK {
				t.Fatal(f, r, e)
			}
		}
	}
	if r, e := number.Sqrt(frac(31622*31622, 1), 10000); r != span(316220000, 316220000) || e != api.OK {
		t.Error(r, e)
	}
}

func TestP1_2RootOf(t *testing.T) {
	if r, e := number.RootOf(span(2, 9)); r != span(1, 3) || e != api.OK {
		t.Error(r, e)
	}
	ends := []int{0, 1, 2, 3, 4, 8, 9, 10, 999999, 1000000, 1000001, 31622776*31622776 - 1, 31622776 * 31622776, most - 1, most}
	for _, lo := range ends {
		for _, hi := range ends {
			if lo > hi {
				continue
			}
			r, e := number.RootOf(span(lo, hi))
			low, _ := number.RootOf(span(lo, lo))
			high, _ := number.RootOf(span(hi, hi))
			if e != api.OK || r != span(low.Lo, high.Hi) {
				t.Error(lo, hi, r, e)
			}
		}
		r, _ := number.RootOf(span(lo, lo))
		checkSquare(t, big.NewRat(int64(lo), 1), r)
	}
	for r, want := range map[api.Range]api.Errno{
		span(-1, 4): api.ErrRange, span(-2, -1): api.ErrRange, span(4, 1): api.ErrOrder, span(-1, -2): api.ErrOrder,
		span(0, most+1): api.ErrRange, span(math.MinInt, 0): api.ErrRange,
	} {
		if got, e := number.RootOf(r); got != (api.Range{}) || e != want {
			t.Error(r, got, e)
		}
	}
}

func TestP1_7Fractions(t *testing.T) {
	all := fracs()
	for _, a := range all {
		for _, b := range all {
			ab, e := number.Add(a, b)
			if ba, e2 := number.Add(b, a); fracError(a) == api.OK && fracError(b) == api.OK && (ab != ba || e != e2) {
				t.Fatal("Add", a, b)
			}
			ab, e = number.Mul(a, b)
			if ba, e2 := number.Mul(b, a); fracError(a) == api.OK && fracError(b) == api.OK && (ab != ba || e != e2) {
				t.Fatal("Mul", a, b)
			}
			ab, e = number.Sub(a, b)
			if fracError(b) == api.OK {
				if sum, e2 := number.Add(a, frac(-b.Num, b.Den)); ab != sum || e != e2 {
					t.Fatal("Sub", a, b)
				}
			}
			if q, e := number.Quo(a, b); e == api.OK {
				if back, e := number.Mul(q, b); back != a || e != api.OK {
					t.Fatal("Quo", a, b, q, back, e)
				}
			}
		}
	}
}

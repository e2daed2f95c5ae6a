package optics_test

import (
	"math"
	"math/big"
	"slices"
	"testing"

	"speculum/api"
	"speculum/optics"
)

func frac(num, den int) api.Frac { return api.Frac{Num: num, Den: den} }

func whole(n int) api.Frac { return frac(n, 1) }

func span(lo, hi int) api.Range { return api.Range{Lo: lo, Hi: hi} }

func conic(radius, num, den int) api.Conic { return api.Conic{Radius: radius, K: frac(num, den)} }

func integer(n int) *big.Int { return big.NewInt(int64(n)) }

func product(factors ...int) *big.Int {
	p := integer(1)
	for _, f := range factors {
		p.Mul(p, integer(f))
	}
	return p
}

// downBig is a / b, rounded down, upBig the same rounded up; b is above 0.
func downBig(a, b *big.Int) *big.Int { return new(big.Int).Div(a, b) }

func upBig(a, b *big.Int) *big.Int {
	q := new(big.Int).Neg(a)
	return q.Neg(q.Div(q, b))
}

func rootUpBig(n *big.Int) *big.Int {
	root := new(big.Int).Sqrt(n)
	if new(big.Int).Mul(root, root).Cmp(n) < 0 {
		root.Add(root, integer(1))
	}
	return root
}

// fracError is the error of CheckFrac, computed with numbers of any size.
func fracError(f api.Frac) api.Errno {
	num, den := new(big.Int).Abs(integer(f.Num)), integer(f.Den)
	switch {
	case den.Sign() <= 0 || new(big.Int).GCD(nil, nil, num, den).Cmp(integer(1)) != 0:
		return api.ErrForm
	case num.Cmp(integer(api.MaxPart)) > 0 || den.Cmp(integer(api.MaxPart)) > 0:
		return api.ErrRange
	}
	return api.OK
}

// conicError is what CheckConic is to return.
func conicError(c api.Conic) api.Errno {
	if c.Radius == 0 || c.Radius < -10000000 || c.Radius > 10000000 {
		return api.ErrRange
	}
	if e := fracError(c.K); e != api.OK {
		return e
	}
	if c.K.Num < -100 || c.K.Num > 100 || c.K.Den > 100 {
		return api.ErrRange
	}
	return api.OK
}

var constants = []api.Frac{
	frac(-100, 1), frac(-7, 3), frac(-3, 2), frac(-100, 99), frac(-1, 1), frac(-99, 100), frac(-1, 2), frac(-1, 100),
	frac(0, 1), frac(1, 100), frac(2, 3), frac(1, 1), frac(100, 99), frac(50, 1), frac(100, 1),
}

var radii = []int{
	1, 2, 3, 7, 100, 999, 12345, 99999, 200000, 500000, 1999999, 9999999, 10000000,
	-1, -2, -3, -7, -100, -999, -12345, -99999, -200000, -500000, -1999999, -9999999, -10000000,
}

// conics are valid conics.
func conics() []api.Conic {
	var l []api.Conic
	for _, radius := range radii {
		for _, k := range constants {
			l = append(l, api.Conic{Radius: radius, K: k})
		}
	}
	return l
}

var badConics = []api.Conic{
	{}, conic(0, 0, 1), conic(0, 2, 4), conic(10000001, 0, 1), conic(-10000001, 0, 1), conic(math.MinInt, 0, 1),
	conic(math.MaxInt, 0, 0), conic(5, 0, 0), conic(5, 0, 2), conic(5, 2, 4), conic(5, 1, -2), conic(5, 202, 2),
	conic(5, 101, 1), conic(5, -101, 1), conic(5, 1, 101), conic(5, math.MinInt, 1), conic(5, 1, math.MaxInt),
	conic(5, 1, math.MinInt), conic(5, math.MinInt, math.MinInt), conic(5, api.MaxPart+1, 1),
}

func TestP2_1CheckConic(t *testing.T) {
	for _, c := range append(conics(), badConics...) {
		if e := optics.CheckConic(c); e != conicError(c) {
			t.Error(c, e, conicError(c))
		}
	}
	for c, want := range map[api.Conic]api.Errno{
		conic(10000000, 100, 1): api.OK, conic(-10000000, -100, 99): api.OK, conic(1, -99, 100): api.OK,
		conic(0, 2, 4): api.ErrRange, conic(10000001, 2, 4): api.ErrRange, conic(math.MinInt, 0, 1): api.ErrRange,
		conic(5, 2, 4): api.ErrForm, conic(5, 202, 4): api.ErrForm, conic(5, 1, 0): api.ErrForm, conic(5, 0, 2): api.ErrForm,
		conic(5, 101, 1): api.ErrRange, conic(5, 1, 101): api.ErrRange, conic(5, math.MinInt, 1): api.ErrRange,
	} {
		if e := optics.CheckConic(c); e != want {
			t.Error(c, e, want)
		}
	}
}

// radicand is q R^2 - s r^2: it has the sign of the radicand.
func radicand(c api.Conic, r int) *big.Int {
	return new(big.Int).Sub(product(c.K.Den, c.Radius, c.Radius), product(c.K.Num+c.K.Den, r, r))
}

func TestP2_1Edge(t *testing.T) {
	for _, c := range conics() {
		edge, e := optics.Edge(c)
		if e != api.OK || edge < 0 || edge > 1000000 || radicand(c, edge).Sign() < 0 {
			t.Error(c, edge, e)
		}
		if edge < 1000000 && radicand(c, edge+1).Sign() >= 0 {
			t.Error("not the greatest", c, edge)
		}
	}
	for _, c := range badConics {
		if edge, e := optics.Edge(c); edge != 0 || e != conicError(c) {
			t.Error(c, edge, e)
		}
	}
	for c, want := range map[api.Conic]int{
		conic(500000, 0, 1): 500000, conic(-500000, 0, 1): 500000, conic(1, -1, 1): 1000000, conic(1, -3, 2): 1000000,
		conic(1, -99, 100): 10, conic(10, 1, 1): 7, conic(1, 100, 1): 0, conic(1000000, 0, 1): 1000000,
		conic(999999, 0, 1): 999999, conic(1000001, 0, 1): 1000000, conic(10000000, -1, 2): 1000000,
	} {
		if edge, e := optics.Edge(c); edge != want || e != api.OK {
			t.Error(c, edge, e, want)
		}
	}
}

// distances are valid and other distances from the axis of a conic.
func distances(c api.Conic) []int {
	edge, _ := optics.Edge(c)
	return []int{
		math.MinInt, -1, 0, 1, 2, 3, 10, 999, 12345, 100000, 271828, 300000, 700001, 999999, 1000000, 1000001, math.MaxInt,
		edge / 2, edge - 1, edge, edge + 1,
	}
}

// placeError is the error of Sag.
func placeError(c api.Conic, r int) api.Errno {
	if e := conicError(c); e != api.OK {
		return e
	}
	if r < 0 || r > 1000000 {
		return api.ErrRange
	}
	if radicand(c, r).Sign() < 0 {
		return api.ErrNone
	}
	return api.OK
}

// rootW is W of the chapter, with numbers of any size.
func rootW(c api.Conic, r int) (lo, hi *big.Int) {
	square, less, q := product(10000, c.Radius, c.Radius), product(10000, c.K.Num+c.K.Den, r, r), integer(c.K.Den)
	lo = new(big.Int).Sub(square, upBig(less, q))
	hi = new(big.Int).Sub(square, downBig(less, q))
	return lo.Sqrt(lo), rootUpBig(hi)
}

// turned is a range, or that of the opposites for a negative radius.
func turned(c api.Conic, lo, hi *big.Int) api.Range {
	r := span(int(lo.Int64()), int(hi.Int64()))
	if c.Radius < 0 {
		return span(-r.Hi, -r.Lo)
	}
	return r
}

// sag and slope are what Sag and Slope are to return.
func sag(c api.Conic, r int) (api.Range, api.Errno) {
	if e := placeError(c, r); e != api.OK {
		return api.Range{}, e
	}
	lo, hi := rootW(c, r)
	radius := product(100, max(c.Radius, -c.Radius))
	over := product(100000, r, r)
	return turned(c, downBig(over, hi.Add(hi, radius)), upBig(over, lo.Add(lo, radius))), api.OK
}

func slope(c api.Conic, r int) (api.Range, api.Errno) {
	if e := placeError(c, r); e != api.OK {
		return api.Range{}, e
	}
	lo, hi := rootW(c, r)
	if lo.Sign() == 0 {
		return api.Range{}, api.ErrZero
	}
	over := product(100000000, r)
	return turned(c, downBig(over, hi), upBig(over, lo)), api.OK
}

func TestP2_2SagAndSlope(t *testing.T) {
	for _, c := range append(conics(), badConics...) {
		for _, r := range distances(c) {
			got, e := optics.Sag(c, r)
			if want, e2 := sag(c, r); got != want || e != e2 {
				t.Fatal("Sag", c, r, got, e, want, e2)
			}
			got, e = optics.Slope(c, r)
			if want, e2 := slope(c, r); got != want || e != e2 {
				t.Fatal("Slope", c, r, got, e, want, e2)
			}
		}
	}
}

func TestP2_2Examples(t *testing.T) {
	for _, x := range []struct {
		c    api.Conic
		r    int
		want api.Range
		e    api.Errno
	}{
		{conic(500000, 0, 1), 300000, span(100000000, 100000000), api.OK},
		{conic(-500000, 0, 1), 300000, span(-100000000, -100000000), api.OK},
		{conic(500000, 0, 1), 500000, span(500000000, 500000000), api.OK},
		{conic(500000, 0, 1), 500001, api.Range{}, api.ErrNone},
		{conic(500000, 0, 1), -1, api.Range{}, api.ErrRange},
		{conic(500000, 0, 1), 1000001, api.Range{}, api.ErrRange},
		{conic(2000000, -1, 1), 100000, span(2500000, 2500000), api.OK},
		{conic(2000000, 0, 1), 100000, span(2501564, 2501565), api.OK},
		{conic(-2000000, 0, 1), 100000, span(-2501565, -2501564), api.OK},
		{conic(8, -11, 9), 5, span(1529, 1531), api.OK}, // 10^4 R^2 less the quotient rounded down is a square
		{conic(7, -1, 1), 0, span(0, 0), api.OK},
		{conic(1, -1, 1), 1000000, span(500000000000000, 500000000000000), api.OK},
	} {
		if got, e := optics.Sag(x.c, x.r); got != x.want || e != x.e {
			t.Error("Sag", x.c, x.r, got, e)
		}
	}
	if s, e := optics.Slope(conic(500000, 0, 1), 300000); s != span(750000, 750000) || e != api.OK {
		t.Error(s, e)
	}
	if s, e := optics.Slope(conic(-500000, 0, 1), 300000); s != span(-750000, -750000) || e != api.OK {
		t.Error(s, e)
	}
	if s, e := optics.Slope(conic(8, -11, 9), 5); s != span(599520, 600241) || e != api.OK {
		t.Error(s, e)
	}
	if s, e := optics.Slope(conic(500000, 0, 1), 0); s != span(0, 0) || e != api.OK {
		t.Error(s, e)
	}
	if s, e := optics.Slope(conic(-500000, 0, 1), 500000); s != (api.Range{}) || e != api.ErrZero {
		t.Error(s, e)
	}
}

func TestP2_2Departure(t *testing.T) {
	sphere, paraboloid := conic(2000000, 0, 1), conic(2000000, -1, 1)
	if d, e := optics.Departure(sphere, paraboloid, 100000); d != span(1564, 1565) || e != api.OK {
		t.Error(d, e)
	}
	if d, e := optics.Departure(conic(1, -1, 1), conic(-1, -1, 1), 1000000); d != span(1000000000000000, 1000000000000000) || e != api.OK {
		t.Error(d, e)
	}
	some := append(slices.Clone(badConics), conics()[:40]...)
	some = append(some, conics()[180:230]...)
	for _, a := range some {
		for _, b := range some {
			for _, r := range []int{-1, 0, 3, 101, 70000, 1000000, 1000001} {
				got, e := optics.Departure(a, b, r)
				if want, e2 := departure(a, b, r); got != want || e != e2 {
					t.Fatal(a, b, r, got, e, want, e2)
				}
			}
		}
	}
}

// departure is what Departure is to return.
func departure(a, b api.Conic, r int) (api.Range, api.Errno) {
	ofA, e1 := sag(a, r)
	ofB, e2 := sag(b, r)
	for _, e := range []api.Errno{conicError(a), conicError(b), e1, e2} {
		if e != api.OK {
			return api.Range{}, e
		}
	}
	return span(ofA.Lo-ofB.Hi, ofA.Hi-ofB.Lo), api.OK
}

func TestP2_2DepartureErrorsInOrder(t *testing.T) {
	range5, form5 := conic(0, 0, 1), conic(5, 2, 4)
	if d, e := optics.Departure(form5, range5, -1); d != (api.Range{}) || e != api.ErrForm {
		t.Error(d, e)
	}
	if d, e := optics.Departure(conic(5, 0, 1), form5, 6); d != (api.Range{}) || e != api.ErrForm {
		t.Error("the conic b is told before the sag of a", d, e)
	}
	if d, e := optics.Departure(conic(5, 0, 1), conic(6, 0, 1), 6); d != (api.Range{}) || e != api.ErrNone {
		t.Error(d, e)
	}
	if d, e := optics.Departure(conic(6, 0, 1), conic(5, 0, 1), 6); d != (api.Range{}) || e != api.ErrNone {
		t.Error(d, e)
	}
}

func TestP2_2SagTable(t *testing.T) {
	c := conic(500000, 0, 1)
	at := []int{300000, 0, 500000, 300000}
	want := []api.Range{span(100000000, 100000000), span(0, 0), span(500000000, 500000000), span(100000000, 100000000)}
	if got, e := optics.SagTable(c, at); !slices.Equal(got, want) || e != api.OK {
		t.Error(got, e)
	}
	if !slices.Equal(at, []int{300000, 0, 500000, 300000}) {
		t.Error("written into the argument", at)
	}
	if got, e := optics.SagTable(c, nil); len(got) != 0 || e != api.OK {
		t.Error(got, e)
	}
	if got, e := optics.SagTable(c, make([]int, 40)); len(got) != 40 || e != api.OK {
		t.Error(len(got), e)
	}
	for _, x := range []struct {
		c  api.Conic
		at []int
		e  api.Errno
	}{
		{c, make([]int, 41), api.ErrLarge},
		{conic(5, 2, 4), make([]int, 41), api.ErrForm},
		{conic(5, 2, 4), nil, api.ErrForm},
		{c, []int{1, 500001, -1}, api.ErrNone},
		{c, []int{1, -1, 500001}, api.ErrRange},
		{c, append(make([]int, 40), -1), api.ErrLarge},
	} {
		if got, e := optics.SagTable(x.c, x.at); got != nil || e != x.e {
			t.Error(x.c, x.at, got, e)
		}
	}
}

func TestP2_10SagsGrow(t *testing.T) {
	for _, c := range conics() {
		if c.Radius < 0 {
			continue
		}
		edge, _ := optics.Edge(c)
		for _, from := range []int{0, 1000, edge / 3, edge / 2, edge - 200} {
			before := api.Range{}
			for r := max(from, 0); r <= min(from+200, edge); r++ {
				s, e := optics.Sag(c, r)
				if e != api.OK || s.Lo < before.Lo || s.Hi < before.Hi {
					t.Fatal(c, r, before, s, e)
				}
				before = s
			}
		}
	}
}

// trueSag is the sag in nanometres, to some hundred digits.
func trueSag(c api.Conic, r int) *big.Float {
	float := func(n *big.Int) *big.Float { return new(big.Float).SetPrec(400).SetInt(n) }
	root := float(radicand(c, r))
	root.Quo(root, float(integer(c.K.Den)))
	root.Sqrt(root)
	root.Add(root, float(integer(max(c.Radius, -c.Radius))))
	z := float(product(1000, r, r))
	if c.Radius < 0 {
		z.Neg(z)
	}
	return z.Quo(z, root)
}

func TestP2_10TrueSagLiesWithin(t *testing.T) {
	for _, c := range conics() {
		for _, r := range distances(c) {
			s, e := optics.Sag(c, r)
			if e == api.OK && !contains(s, trueSag(c, r)) {
				t.Error(c, r, s, trueSag(c, r))
			}
		}
	}
}

func TestP2_10GreaterConstantGreaterSag(t *testing.T) {
	for _, radius := range radii {
		for i, k := range constants[1:] {
			less, more := api.Conic{Radius: radius, K: constants[i]}, api.Conic{Radius: radius, K: k}
			if radius < 0 { // the sags are opposites
				less, more = more, less
			}
			for _, r := range distances(conic(max(radius, -radius), 100, 1)) {
				d, e := optics.Departure(more, less, r)
				if e == api.OK && d.Hi < 0 {
					t.Error(less, more, r, d)
				}
			}
		}
	}
}

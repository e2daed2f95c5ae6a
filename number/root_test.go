package number_test

import (
	"math"
	"math/big"
	"math/rand/v2"
	"testing"

	"speculum/api"
	"speculum/number"
)

func TestP1_6Examples(t *testing.T) {
	p, q := []int{-2, 0, 1}, []int{0, 0, 1}
	for _, c := range []struct {
		p      []int
		lo, hi int
		want   int
	}{{p, 0, 2, 1}, {p, -2, 2, 2}, {p, 2, 3, 0}, {q, -1, 1, 1}, {q, 0, 1, 0}, {q, -1, 0, 1}, {[]int{5}, -9, 9, 0}} {
		if n, e := number.RootsIn(c.p, frac(c.lo, 1), frac(c.hi, 1)); n != c.want || e != api.OK {
			t.Error(c, n, e)
		}
	}
	if r, e := number.RootIn(p, frac(0, 1), frac(2, 1), 100); r != span(141, 142) || e != api.OK {
		t.Error(r, e)
	}
	if r, e := number.RootIn(p, frac(-2, 1), frac(0, 1), 100); r != span(-142, -141) || e != api.OK {
		t.Error(r, e)
	}
	if r, e := number.RootIn(q, frac(-1, 1), frac(1, 1), 7); r != span(0, 0) || e != api.OK {
		t.Error(r, e)
	}
}

func TestP1_6Errors(t *testing.T) {
	p, bad, one, two := []int{-2, 0, 1}, frac(2, 2), frac(1, 1), frac(2, 1)
	for _, c := range []struct {
		lo, hi api.Frac
		e      api.Errno
	}{
		{bad, frac(part+1, 1), api.ErrForm}, {frac(part+1, 1), bad, api.ErrRange}, {one, bad, api.ErrForm},
		{one, frac(1, part+1), api.ErrRange}, {two, bad, api.ErrForm}, {two, one, api.ErrOrder}, {two, two, api.ErrOrder},
		{frac(part, 1), frac(-part, 1), api.ErrOrder}, {frac(math.MinInt, 1), one, api.ErrRange},
	} {
		if n, e := number.RootsIn(p, c.lo, c.hi); n != 0 || e != c.e {
			t.Error(c, n, e)
		}
		for _, times := range []int{0, 1} {
			if r, e := number.RootIn(p, c.lo, c.hi, times); r != (api.Range{}) || e != c.e {
				t.Error(c, times, r, e)
			}
		}
	}
	for _, times := range []int{0, -1, api.MaxTimes + 1, math.MinInt, math.MaxInt} {
		if r, e := number.RootIn(p, two, frac(3, 1), times); r != (api.Range{}) || e != api.ErrRange {
			t.Error(times, r, e)
		}
	}
	if r, e := number.RootIn(p, two, frac(3, 1), 1); r != (api.Range{}) || e != api.ErrNone {
		t.Error(r, e)
	}
	if r, e := number.RootIn([]int{3}, one, two, 1); r != (api.Range{}) || e != api.ErrNone {
		t.Error(r, e)
	}
	if r, e := number.RootIn(p, frac(-2, 1), two, 1); r != (api.Range{}) || e != api.ErrClash {
		t.Error(r, e)
	}
}

func TestP1_6RootsAtTheEnds(t *testing.T) {
	// (x + 1)^3 (x - 2)^2 (2 x - 1): roots -1, 1/2 and 2, two of them several times.
	p := []int{1}
	for _, f := range [][]int{{1, 1}, {1, 1}, {1, 1}, {-2, 1}, {-2, 1}, {-1, 2}} {
		p, _ = number.Times(p, f)
	}
	roots := []api.Frac{frac(-1, 1), frac(1, 2), frac(2, 1)}
	for i, lo := range roots {
		for j := i + 1; j < len(roots); j++ {
			if n, e := number.RootsIn(p, lo, roots[j]); n != j-i || e != api.OK {
				t.Error(lo, roots[j], n, e)
			}
		}
		if r, e := number.RootIn(p, frac(-part, 1), roots[0], 6); r != span(-6, -6) || e != api.OK {
			t.Error(r, e)
		}
		if n, e := number.RootsIn(p, lo, frac(part, 1)); n != 2-i || e != api.OK {
			t.Error(lo, n, e)
		}
	}
	if r, e := number.RootIn(p, roots[0], roots[1], 5); r != span(2, 3) || e != api.OK {
		t.Error(r, e)
	}
	if r, e := number.RootIn(p, roots[1], roots[2], 5); r != span(10, 10) || e != api.OK {
		t.Error(r, e)
	}
}

func TestP1_6WholeNumbersBeyondTheBounds(t *testing.T) {
	// (3 x - 1)(x - 1): the root 1/3, rounded up, is the other root.
	if r, e := number.RootIn([]int{1, -4, 3}, frac(0, 1), frac(1, 2), 1); r != span(0, 1) || e != api.OK {
		t.Error(r, e)
	}
	// (3 x - 1) x: the root 1/3, rounded down, is the other root.
	if r, e := number.RootIn([]int{0, -1, 3}, frac(1, 4), frac(1, 2), 1); r != span(0, 1) || e != api.OK {
		t.Error(r, e)
	}
	if r, e := number.RootIn([]int{-1, 3}, frac(1, 4), frac(1, 3), 3); r != span(1, 1) || e != api.OK {
		t.Error(r, e)
	}
	if r, e := number.RootIn([]int{-1000000, 1}, frac(-part, 1), frac(part, 1), 1000000); r != span(1000000000000, 1000000000000) || e != api.OK {
		t.Error(r, e)
	}
	if r, e := number.RootIn([]int{1, 1000000}, frac(-part, 1), frac(part, 1), 1000000); r != span(-1, -1) || e != api.OK {
		t.Error(r, e)
	}
	if r, e := number.RootIn([]int{1, 1000000}, frac(-1, part), frac(part, 1), 1000000); r != (api.Range{}) || e != api.ErrNone {
		t.Error(r, e)
	}
}

// made is a polynomial of which all roots are known: fractions, square roots and their opposites.
type made struct {
	p     []int
	roots []api.Frac // each one times its size, so that square roots are fractions, too
}

// signedSquare is x times its size. It keeps the order of numbers.
func signedSquare(x *big.Rat) *big.Rat {
	return new(big.Rat).Mul(x, new(big.Rat).Abs(x))
}

// makePoly is a valid polynomial of random factors.
func makePoly(r *rand.Rand) made {
	m := made{p: []int{r.IntN(5) + 1}}
	add := func(num, den int) {
		f, _ := small(big.NewRat(int64(num), int64(den)))
		for _, old := range m.roots {
			if old == f {
				return
			}
		}
		m.roots = append(m.roots, f)
	}
	for range 1 + r.IntN(5) {
		var factor []int
		num, den := r.IntN(9)-4, r.IntN(4)+1
		switch r.IntN(4) {
		case 0, 1:
			factor = []int{-num, den}
			add(num*max(num, -num), den*den)
		case 2:
			factor = []int{-(num*num + 2), 0, den}
			add(num*num+2, den)
			add(-num*num-2, den)
		case 3:
			factor = []int{-den, 0, -(num*num + 1)}
		}
		next, e := number.Times(m.p, factor)
		if e != api.OK {
			return makePoly(r)
		}
		m.p = next
	}
	return m
}

// between are the roots that are greater than lo and at most hi.
func (m made) between(lo, hi api.Frac) []*big.Rat {
	var l []*big.Rat
	for _, root := range m.roots {
		if rat(root).Cmp(signedSquare(rat(lo))) > 0 && rat(root).Cmp(signedSquare(rat(hi))) <= 0 {
			l = append(l, rat(root))
		}
	}
	return l
}

// rounded tells whether r is times multiplied by a root, rounded down and up.
func rounded(root *big.Rat, times int, r api.Range) bool {
	at := func(n int) int { return signedSquare(big.NewRat(int64(n), int64(times))).Cmp(root) }
	if r.Lo == r.Hi {
		return at(r.Lo) == 0
	}
	return r.Hi == r.Lo+1 && at(r.Lo) < 0 && at(r.Hi) > 0
}

func TestP1_6RandomPolynomials(t *testing.T) {
	random := rand.New(rand.NewPCG(1, 6))
	bound := func() api.Frac {
		f, _ := small(big.NewRat(int64(random.IntN(41)-20), int64(random.IntN(5)+1)))
		return f
	}
	for range 3000 {
		m := makePoly(random)
		for range 8 {
			lo, hi := bound(), bound()
			order := rat(lo).Cmp(rat(hi))
			if order > 0 {
				lo, hi = hi, lo
			}
			if order == 0 {
				continue
			}
			want := m.between(lo, hi)
			if n, e := number.RootsIn(m.p, lo, hi); n != len(want) || e != api.OK {
				t.Fatal(m, lo, hi, n, e, want)
			}
			times := []int{1, 2, 3, 12, 1000, api.MaxTimes}[random.IntN(6)]
			r, e := number.RootIn(m.p, lo, hi, times)
			switch len(want) {
			case 0:
				if e != api.ErrNone || r != (api.Range{}) {
					t.Fatal(m, lo, hi, r, e)
				}
			case 1:
				if e != api.OK || !rounded(want[0], times, r) {
					t.Fatal(m, lo, hi, times, r, e, want)
				}
			default:
				if e != api.ErrClash || r != (api.Range{}) {
					t.Fatal(m, lo, hi, r, e)
				}
			}
		}
	}
}

// The signs at the ends of what RootIn returns tell that a simple root is there, whatever the size of the coefficients.
func TestP1_6GreatCoefficients(t *testing.T) {
	random := rand.New(rand.NewPCG(6, 1))
	for range 300 {
		p := make([]int, 2+random.IntN(6))
		for i := range p {
			p[i] = random.IntN(2*api.MaxCoef+1) - api.MaxCoef
		}
		if number.CheckPoly(p) != api.OK {
			continue
		}
		lo, hi := frac(-random.IntN(part)-1, 999999937), frac(random.IntN(part)+1, 999999929)
		r, e := number.RootIn(p, lo, hi, api.MaxTimes)
		n, _ := number.RootsIn(p, lo, hi)
		if (n == 0) != (e == api.ErrNone) || (n == 1) != (e == api.OK) || (n > 1) != (e == api.ErrClash) {
			t.Fatal(p, lo, hi, n, r, e)
		}
		changed := valueAt(p, rat(lo)).Sign() != valueAt(p, rat(hi)).Sign()
		if changed != (n%2 == 1) {
			t.Fatal(p, lo, hi, n)
		}
		if e == api.OK {
			least, greatest := big.NewRat(int64(r.Lo), api.MaxTimes), big.NewRat(int64(r.Hi), api.MaxTimes)
			if valueAt(p, least).Sign()*valueAt(p, greatest).Sign() > 0 || r.Hi-r.Lo > 1 {
				t.Fatal(p, lo, hi, r)
			}
		}
	}
}

func TestP1_9Counting(t *testing.T) {
	random := rand.New(rand.NewPCG(1, 9))
	for range 2000 {
		m := makePoly(random)
		total, _ := number.RootsIn(m.p, frac(-part, 1), frac(part, 1))
		if total != len(m.roots) {
			t.Fatal(m, total)
		}
		middle, _ := small(big.NewRat(int64(random.IntN(25)-12), int64(random.IntN(4)+1)))
		left, _ := number.RootsIn(m.p, frac(-part, 1), middle)
		right, _ := number.RootsIn(m.p, middle, frac(part, 1))
		if left+right != total {
			t.Fatal(m, middle, left, right, total)
		}
		if d, e := number.Derivative(m.p); e == api.OK && len(m.p) > 2 {
			if n, _ := number.RootsIn(d, frac(-part, 1), frac(part, 1)); n < total-1 {
				t.Fatal(m, n, total)
			}
		}
	}
}

func TestP1_9ProductsOfFactors(t *testing.T) {
	p, roots := []int{1}, []int{-9, -4, -1, 0, 3, 7}
	for i, root := range roots {
		p, _ = number.Times(p, []int{-root, 1})
		for x := -10; x <= 10; x++ {
			n, e := number.RootsIn(p, frac(x-1, 1), frac(x, 1))
			want := 0
			for _, r := range roots[:i+1] {
				if r == x {
					want = 1
				}
			}
			if n != want || e != api.OK {
				t.Error(p, x, n, e)
			}
			if s, _ := number.SignAt(p, frac(x, 1)); (s == 0) != (want == 1) {
				t.Error(p, x, s)
			}
		}
	}
}

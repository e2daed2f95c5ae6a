package optics_test

import (
	"math"
	"math/big"
	"math/rand/v2"
	"testing"

	"speculum/api"
	"speculum/optics"
)

// exact computes with fractions of any size, and notes whether a number on the way is not small.
type exact struct{ large bool }

func (x *exact) note(r *big.Rat) *big.Rat {
	limit := integer(1000000000)
	x.large = x.large || r.Num().CmpAbs(limit) > 0 || r.Denom().Cmp(limit) > 0
	return r
}

func (x *exact) add(a, b *big.Rat) *big.Rat { return x.note(new(big.Rat).Add(a, b)) }
func (x *exact) sub(a, b *big.Rat) *big.Rat { return x.note(new(big.Rat).Sub(a, b)) }
func (x *exact) mul(a, b *big.Rat) *big.Rat { return x.note(new(big.Rat).Mul(a, b)) }
func (x *exact) quo(a, b *big.Rat) *big.Rat { return x.note(new(big.Rat).Quo(a, b)) }

// error is ErrLarge if a number was not small.
func (x *exact) error() api.Errno {
	if x.large {
		return api.ErrLarge
	}
	return api.OK
}

func rat(f api.Frac) *big.Rat { return big.NewRat(int64(f.Num), int64(f.Den)) }

func ratOf(n int) *big.Rat { return big.NewRat(int64(n), 1) }

// fracOf is a small number as a fraction.
func fracOf(r *big.Rat) api.Frac {
	return frac(int(r.Num().Int64()), int(r.Denom().Int64()))
}

// matrixBig is A, B, C and D.
type matrixBig [4]*big.Rat

func (m matrixBig) matrix() api.Matrix {
	return api.Matrix{A: fracOf(m[0]), B: fracOf(m[1]), C: fracOf(m[2]), D: fracOf(m[3])}
}

// matrixOf is what MatrixOf is to return of valid elements.
func matrixOf(l []api.Element) (api.Matrix, api.Errno) {
	var x exact
	m := matrixBig{ratOf(1), ratOf(0), ratOf(0), ratOf(1)}
	for _, y := range l {
		switch y.Kind {
		case api.ElementSpace:
			d := ratOf(y.Size)
			m[0], m[1] = x.add(m[0], x.mul(d, m[2])), x.add(m[1], x.mul(d, m[3]))
		default:
			power := big.NewRat(1, int64(y.Size))
			if y.Kind == api.ElementMirror {
				power = big.NewRat(2, int64(y.Size))
			}
			m[2], m[3] = x.sub(m[2], x.mul(power, m[0])), x.sub(m[3], x.mul(power, m[1]))
		}
	}
	if x.large {
		return api.Matrix{}, api.ErrLarge
	}
	return m.matrix(), api.OK
}

func space(d int) api.Element  { return api.Element{Kind: api.ElementSpace, Size: d} }
func mirror(r int) api.Element { return api.Element{Kind: api.ElementMirror, Size: r} }
func lens(f int) api.Element   { return api.Element{Kind: api.ElementLens, Size: f} }

// someElements is a list of elements, mostly with small sizes.
func someElements(random *rand.Rand, most int) []api.Element {
	l := make([]api.Element, random.IntN(most+1))
	for i := range l {
		size := 1 + random.IntN([]int{3, 12, 60, 2000, 10000000}[random.IntN(5)])
		l[i] = api.Element{Kind: 1 + random.IntN(3), Size: size}
		if l[i].Kind != api.ElementSpace && random.IntN(2) == 0 {
			l[i].Size = -size
		}
	}
	return l
}

func TestP2_3CheckElements(t *testing.T) {
	for _, x := range []struct {
		l []api.Element
		e api.Errno
	}{
		{nil, api.OK},
		{[]api.Element{space(0), space(10000000), mirror(-10000000), mirror(10000000), lens(1), lens(-10000000)}, api.OK},
		{[]api.Element{{Kind: 0, Size: 5}}, api.ErrKind},
		{[]api.Element{{Kind: 4, Size: math.MinInt}}, api.ErrKind},
		{[]api.Element{{Kind: math.MinInt}}, api.ErrKind},
		{[]api.Element{space(-1)}, api.ErrRange},
		{[]api.Element{space(10000001)}, api.ErrRange},
		{[]api.Element{space(math.MinInt)}, api.ErrRange},
		{[]api.Element{mirror(0)}, api.ErrRange},
		{[]api.Element{mirror(-10000001)}, api.ErrRange},
		{[]api.Element{mirror(math.MinInt)}, api.ErrRange},
		{[]api.Element{lens(0)}, api.ErrRange},
		{[]api.Element{lens(10000001)}, api.ErrRange},
		{[]api.Element{lens(math.MinInt)}, api.ErrRange},
		{[]api.Element{space(1), space(-1), {Kind: 9}}, api.ErrRange},
		{[]api.Element{space(1), {Kind: 9}, space(-1)}, api.ErrKind},
		{append(make([]api.Element, 20), space(1)), api.ErrLarge},
		{make([]api.Element, 20), api.ErrKind},
	} {
		if e := optics.CheckElements(x.l); e != x.e {
			t.Error(x.l, e, x.e)
		}
		if m, e := optics.MatrixOf(x.l); x.e != api.OK && (m != (api.Matrix{}) || e != x.e) {
			t.Error("MatrixOf", x.l, m, e)
		}
	}
	twenty := make([]api.Element, 20)
	for i := range twenty {
		twenty[i] = space(i)
	}
	m, e := optics.MatrixOf(twenty)
	if want := (api.Matrix{A: whole(1), B: whole(190), C: whole(0), D: whole(1)}); m != want || e != api.OK {
		t.Error(m, e)
	}
	if e := optics.CheckElements(append(twenty, space(1))); e != api.ErrLarge {
		t.Error(e)
	}
}

func TestP2_3MatrixOf(t *testing.T) {
	for _, x := range []struct {
		l    []api.Element
		want api.Matrix
		e    api.Errno
	}{
		{nil, api.Matrix{A: whole(1), B: whole(0), C: whole(0), D: whole(1)}, api.OK},
		{[]api.Element{lens(100), space(50)}, api.Matrix{A: frac(1, 2), B: whole(50), C: frac(-1, 100), D: whole(1)}, api.OK},
		{[]api.Element{space(50), lens(100)}, api.Matrix{A: whole(1), B: whole(50), C: frac(-1, 100), D: frac(1, 2)}, api.OK},
		{[]api.Element{mirror(-8)}, api.Matrix{A: whole(1), B: whole(0), C: frac(1, 4), D: whole(1)}, api.OK},
		{[]api.Element{mirror(4000), space(1500), mirror(-1500)}, api.Matrix{A: frac(1, 4), B: whole(1500), C: frac(-1, 6000), D: whole(3)}, api.OK},
		{[]api.Element{lens(9999991), space(1), lens(9999973)}, api.Matrix{}, api.ErrLarge},
	} {
		if m, e := optics.MatrixOf(x.l); m != x.want || e != x.e {
			t.Error(x.l, m, e)
		}
	}
	random := rand.New(rand.NewPCG(2, 3))
	large := 0
	for range 20000 {
		l := someElements(random, 6)
		m, e := optics.MatrixOf(l)
		if want, e2 := matrixOf(l); m != want || e != e2 {
			t.Fatal(l, m, e, want, e2)
		}
		if e != api.OK {
			large++
		}
	}
	if large < 1000 || large > 19000 {
		t.Error("too few of a kind", large)
	}
}

// badFracs are fractions that are not valid.
var badFracs = []api.Frac{{}, frac(2, 4), frac(1, -1), frac(0, 2), frac(math.MinInt, math.MinInt), frac(api.MaxPart+1, 1), frac(1, api.MaxPart+1), frac(math.MinInt, 1)}

// fields are the fractions of a matrix.
func fields(m *api.Matrix) [4]*api.Frac { return [4]*api.Frac{&m.A, &m.B, &m.C, &m.D} }

// someMatrix has fractions that are small, and not always those of a system.
func someMatrix(random *rand.Rand) api.Matrix {
	var m api.Matrix
	limit := []int{2, 12, 1000, 60000, 1000000000}[random.IntN(5)]
	for _, f := range fields(&m) {
		*f = fracOf(big.NewRat(int64(random.IntN(2*limit+1)-limit), int64(1+random.IntN(limit))))
	}
	return m
}

func TestP2_3JoinAndDeterminant(t *testing.T) {
	random := rand.New(rand.NewPCG(3, 2))
	for range 20000 {
		m, n := someMatrix(random), someMatrix(random)
		var x, y exact
		pairs := func(a, b, c, d api.Frac) *big.Rat {
			return x.add(x.mul(rat(a), rat(b)), x.mul(rat(c), rat(d)))
		}
		big := matrixBig{
			pairs(n.A, m.A, n.B, m.C), pairs(n.A, m.B, n.B, m.D), pairs(n.C, m.A, n.D, m.C), pairs(n.C, m.B, n.D, m.D),
		}
		want := api.Matrix{}
		if !x.large {
			want = big.matrix()
		}
		if got, e := optics.Join(m, n); got != want || e != x.error() {
			t.Fatal(m, n, got, e, want)
		}
		d, wantD := y.sub(y.mul(rat(m.A), rat(m.D)), y.mul(rat(m.B), rat(m.C))), api.Frac{}
		if !y.large {
			wantD = fracOf(d)
		}
		if got, e := optics.Determinant(m); got != wantD || e != y.error() {
			t.Fatal(m, got, e, wantD)
		}
	}
}

func TestP2_3MatrixErrors(t *testing.T) {
	fine := api.Matrix{A: whole(1), B: whole(2), C: whole(3), D: whole(4)}
	zero := fine
	zero.C = whole(0)
	for i := range 4 {
		for _, f := range badFracs {
			for _, g := range badFracs {
				m, n := zero, zero
				*fields(&m)[i] = f
				*fields(&n)[i] = g
				if i < 3 {
					*fields(&m)[i+1] = g
				}
				checkMatrixError(t, m, fracError(f))
				for k, want := range map[[2]api.Matrix]api.Errno{{m, n}: fracError(f), {fine, n}: fracError(g), {m, fine}: fracError(f)} {
					if got, e := optics.Join(k[0], k[1]); got != (api.Matrix{}) || e != want {
						t.Error("Join", k, got, e)
					}
				}
			}
		}
	}
}

// checkMatrixError checks the functions of one matrix.
func checkMatrixError(t *testing.T, m api.Matrix, want api.Errno) {
	t.Helper()
	for i, f := range []func(api.Matrix) (api.Frac, api.Errno){optics.Determinant, optics.Focal, optics.BackFocus} {
		if got, e := f(m); got != (api.Frac{}) || e != want {
			t.Error(i, m, got, e, want)
		}
	}
}

func TestP2_4Foci(t *testing.T) {
	random := rand.New(rand.NewPCG(4, 2))
	for range 20000 {
		m := someMatrix(random)
		if random.IntN(5) == 0 {
			m.C = whole(0)
			checkMatrixError(t, api.Matrix{A: m.A, B: m.B, C: m.C, D: frac(0, 2)}, api.ErrForm)
			for _, f := range []func(api.Matrix) (api.Frac, api.Errno){optics.Focal, optics.BackFocus} {
				if got, e := f(m); got != (api.Frac{}) || e != api.ErrZero {
					t.Fatal(m, got, e)
				}
			}
			continue
		}
		if m.C.Num == 0 {
			continue
		}
		checkQuotient(t, m, optics.Focal, ratOf(-1))
		checkQuotient(t, m, optics.BackFocus, new(big.Rat).Neg(rat(m.A)))
	}
	m := api.Matrix{A: frac(1, 1000000000), B: whole(0), C: whole(7), D: whole(1)}
	if f, e := optics.BackFocus(m); f != (api.Frac{}) || e != api.ErrLarge {
		t.Error(f, e)
	}
	if f, e := optics.Focal(m); f != frac(-1, 7) || e != api.OK {
		t.Error(f, e)
	}
	m.A = whole(0)
	if f, e := optics.BackFocus(m); f != whole(0) || e != api.OK {
		t.Error(f, e)
	}
}

// checkQuotient checks that a function returns over / C.
func checkQuotient(t *testing.T, m api.Matrix, f func(api.Matrix) (api.Frac, api.Errno), over *big.Rat) {
	t.Helper()
	var x exact
	q, want := x.quo(over, rat(m.C)), api.Frac{}
	if !x.large {
		want = fracOf(q)
	}
	if got, e := f(m); got != want || e != x.error() {
		t.Fatal(m, got, e, want)
	}
}

// twoMirrors is what TwoMirrors is to return.
func twoMirrors(primary, secondary, apart int) (api.Pair, api.Errno) {
	l := []api.Element{mirror(primary), space(apart), mirror(secondary)}
	if e := optics.CheckElements(l); e != api.OK {
		return api.Pair{}, e
	}
	m, e := matrixOf(l)
	if e != api.OK {
		return api.Pair{}, e
	}
	if m.C.Num == 0 {
		return api.Pair{}, api.ErrZero
	}
	var x exact
	focal := x.quo(ratOf(-1), rat(m.C))
	back := x.quo(new(big.Rat).Neg(rat(m.A)), rat(m.C))
	magnify := x.quo(focal, x.quo(ratOf(primary), ratOf(2)))
	obstruct := x.sub(ratOf(1), x.quo(ratOf(2*apart), ratOf(primary)))
	if x.large {
		return api.Pair{}, api.ErrLarge
	}
	return api.Pair{Focal: fracOf(focal), Back: fracOf(back), Magnify: fracOf(magnify), Obstruct: fracOf(obstruct)}, api.OK
}

func TestP2_4TwoMirrors(t *testing.T) {
	want := api.Pair{Focal: whole(6000), Back: whole(1500), Magnify: whole(3), Obstruct: frac(1, 4)}
	if p, e := optics.TwoMirrors(4000, -1500, 1500); p != want || e != api.OK {
		t.Error(p, e)
	}
	for _, x := range []struct {
		primary, secondary, apart int
		e                         api.Errno
	}{
		{400, 200, 300, api.ErrZero}, {0, 1, 1, api.ErrRange}, {1, 0, 1, api.ErrRange}, {1, 1, -1, api.ErrRange},
		{10000001, 1, 1, api.ErrRange}, {1, -10000001, 1, api.ErrRange}, {1, 1, 10000001, api.ErrRange},
		{math.MinInt, math.MinInt, math.MinInt, api.ErrRange}, {math.MaxInt, 1, 1, api.ErrRange},
		{9999991, 9999973, 1, api.ErrLarge},
	} {
		if p, e := optics.TwoMirrors(x.primary, x.secondary, x.apart); p != (api.Pair{}) || e != x.e {
			t.Error(x, p, e)
		}
	}
	sizes := []int{-10000000, -9999991, -40000, -1500, -400, -7, -2, -1, 1, 2, 3, 200, 999, 4000, 65536, 9999973, 10000000}
	for _, primary := range sizes {
		for _, secondary := range sizes {
			for _, apart := range []int{0, 1, 2, 7, 300, 1000, 1500, 2001, 65537, 9999999, 10000000} {
				p, e := optics.TwoMirrors(primary, secondary, apart)
				if want, e2 := twoMirrors(primary, secondary, apart); p != want || e != e2 {
					t.Fatal(primary, secondary, apart, p, e, want, e2)
				}
			}
		}
	}
}

func TestP2_11Determinant(t *testing.T) {
	random := rand.New(rand.NewPCG(11, 2))
	tried := 0
	for range 20000 {
		m, e := optics.MatrixOf(someElements(random, 8))
		if e != api.OK {
			continue
		}
		d, e := optics.Determinant(m)
		if e == api.OK {
			tried++
		}
		if e != api.ErrLarge && d != whole(1) {
			t.Fatal(m, d, e)
		}
	}
	if tried < 1000 {
		t.Error("too few", tried)
	}
}

func TestP2_11PartsOfAList(t *testing.T) {
	random := rand.New(rand.NewPCG(2, 11))
	tried := 0
	for range 20000 {
		l := someElements(random, 8)
		at := random.IntN(len(l) + 1)
		all, e := optics.MatrixOf(l)
		first, e1 := optics.MatrixOf(l[:at])
		second, e2 := optics.MatrixOf(l[at:])
		if e != api.OK || e1 != api.OK || e2 != api.OK {
			continue
		}
		joined, e := optics.Join(first, second)
		if e == api.OK {
			tried++
		}
		if e != api.ErrLarge && joined != all {
			t.Fatal(l, at, all, joined, e)
		}
	}
	if tried < 1000 {
		t.Error("too few", tried)
	}
}

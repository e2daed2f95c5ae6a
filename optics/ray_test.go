package optics_test

import (
	"math"
	"math/big"
	"math/rand/v2"
	"testing"

	"speculum/api"
	"speculum/optics"
)

// rayConicError is the error of a conic for rays.
func rayConicError(c api.Conic) api.Errno {
	if e := conicError(c); e != api.OK {
		return e
	}
	if c.Radius < -200000 || c.Radius > 200000 || c.K.Num < -10 || c.K.Num > 10 || c.K.Den > 10 {
		return api.ErrRange
	}
	return api.OK
}

var badRayConics = append([]api.Conic{
	conic(200001, 0, 1), conic(-200001, 0, 1), conic(5, 11, 1), conic(5, -11, 1), conic(5, 1, 11), conic(10000000, 100, 99),
}, badConics...)

// rayConics are valid conics for rays.
func rayConics() []api.Conic {
	var l []api.Conic
	for _, radius := range []int{1, 2, 50, 100, 12347, 200000, -1, -3, -50, -200000} {
		for _, k := range []api.Frac{frac(-10, 1), frac(-10, 9), frac(-1, 1), frac(-3, 4), frac(0, 1), frac(1, 10), frac(7, 3), frac(10, 1)} {
			l = append(l, api.Conic{Radius: radius, K: k})
		}
	}
	return l
}

// someRational is a number that is not large.
func someRational(random *rand.Rand) *big.Rat {
	limit := []int{2, 9, 60, 3000, 100000}[random.IntN(5)]
	return big.NewRat(int64(random.IntN(2*limit+1)-limit), int64(1+random.IntN(limit)))
}

// someSpot is a point, mostly on a conic: where the line R = slope Z meets it. It is valid if its parts are small.
func someSpot(random *rand.Rand, c api.Conic) (r, z *big.Rat) {
	slope := someRational(random)
	under := new(big.Rat).Mul(slope, slope)
	under.Add(under, new(big.Rat).Add(ratOf(1), rat(c.K)))
	if random.IntN(5) == 0 || under.Sign() == 0 {
		return someRational(random), someRational(random)
	}
	z = new(big.Rat).Quo(ratOf(2*c.Radius), under)
	return new(big.Rat).Mul(slope, z), z
}

// isOn is what OnConic is to return of valid arguments.
func isOn(c api.Conic, p api.Spot) (bool, api.Errno) {
	var x exact
	r, z := rat(p.R), rat(p.Z)
	first, third := x.mul(r, r), x.mul(new(big.Rat).Add(ratOf(1), rat(c.K)), x.mul(z, z))
	left := x.sub(x.add(first, third), x.mul(ratOf(2*c.Radius), z))
	return left.Sign() == 0 && !x.large, x.error()
}

// back is what Reflect is to return of valid arguments.
func back(c api.Conic, p api.Spot, toward [2]int) ([2]api.Frac, api.Errno) {
	if is, e := isOn(c, p); e != api.OK {
		return [2]api.Frac{}, e
	} else if !is {
		return [2]api.Frac{}, api.ErrState
	}
	var x exact
	d := [2]*big.Rat{ratOf(toward[0]), ratOf(toward[1])}
	n := [2]*big.Rat{rat(p.R), x.sub(x.mul(new(big.Rat).Add(ratOf(1), rat(c.K)), rat(p.Z)), ratOf(c.Radius))}
	twice := x.mul(ratOf(2), x.add(x.mul(d[0], n[0]), x.mul(d[1], n[1])))
	f := x.quo(twice, x.add(x.mul(n[0], n[0]), x.mul(n[1], n[1])))
	r, z := x.sub(d[0], x.mul(f, n[0])), x.sub(d[1], x.mul(f, n[1]))
	if x.large {
		return [2]api.Frac{}, api.ErrLarge
	}
	return [2]api.Frac{fracOf(r), fracOf(z)}, api.OK
}

func TestP2_5OnConic(t *testing.T) {
	random := rand.New(rand.NewPCG(5, 2))
	counts := map[api.Errno]int{}
	for _, c := range rayConics() {
		for range 500 {
			r, z := someSpot(random, c)
			p := api.Spot{R: fracOf(r), Z: fracOf(z)}
			if fracError(p.R) != api.OK || fracError(p.Z) != api.OK {
				continue
			}
			is, e := optics.OnConic(c, p)
			if want, e2 := isOn(c, p); is != want || e != e2 {
				t.Fatal(c, p, is, e, want, e2)
			}
			if is {
				counts[-1]++
			}
			counts[e]++
		}
	}
	if counts[-1] < 1000 || counts[api.OK] < 2000 || counts[api.ErrLarge] < 1000 {
		t.Error("too few of a kind", counts)
	}
	for p, want := range map[api.Spot]bool{
		{R: whole(30), Z: frac(9, 2)}: true, {R: whole(-30), Z: frac(9, 2)}: true, {R: whole(0), Z: whole(0)}: true,
		{R: whole(30), Z: whole(4)}: false, {R: whole(30), Z: frac(-9, 2)}: false,
	} {
		if is, e := optics.OnConic(conic(100, -1, 1), p); is != want || e != api.OK {
			t.Error(p, is, e)
		}
	}
	if is, e := optics.OnConic(conic(50, 0, 1), api.Spot{R: whole(0), Z: whole(100)}); !is || e != api.OK {
		t.Error("the far half", is, e)
	}
	if is, e := optics.OnConic(conic(50, 0, 1), api.Spot{R: whole(31623), Z: whole(1)}); is || e != api.ErrLarge {
		t.Error(is, e)
	}
}

func TestP2_5OnConicErrors(t *testing.T) {
	fine := api.Spot{R: whole(1), Z: whole(1)}
	for _, c := range badRayConics {
		for _, p := range []api.Spot{fine, {}, {R: whole(100000), Z: whole(1)}} {
			if is, e := optics.OnConic(c, p); is || e != rayConicError(c) {
				t.Error(c, p, is, e)
			}
		}
	}
	for _, f := range badFracs {
		for _, g := range badFracs {
			for p, want := range map[api.Spot]api.Errno{
				{R: f, Z: g}: fracError(f), {R: f, Z: whole(1)}: fracError(f), {R: whole(1), Z: g}: fracError(g),
				{R: whole(100000), Z: g}: fracError(g), // before the square of R is too large
			} {
				if is, e := optics.OnConic(conic(50, 0, 1), p); is || e != want {
					t.Error(p, is, e)
				}
				if d, e := optics.Reflect(conic(50, 0, 1), p, [2]int{1001, 0}); d != [2]api.Frac{} || e != want {
					t.Error("Reflect", p, d, e)
				}
			}
		}
	}
}

// rayError is the error of Hit, but for ErrNone.
func rayError(c api.Conic, y api.Ray) api.Errno {
	if e := rayConicError(c); e != api.OK {
		return e
	}
	if y.R < -100000 || y.R > 100000 || y.Z < -100000 || y.Z > 100000 {
		return api.ErrRange
	}
	if y.ToR < -100 || y.ToR > 100 || y.ToZ < -100 || y.ToZ > 100 {
		return api.ErrRange
	}
	if y.ToR == 0 && y.ToZ == 0 {
		return api.ErrZero
	}
	return api.OK
}

func times(n int, b *big.Int) *big.Int { return new(big.Int).Mul(integer(n), b) }

func sum(l ...*big.Int) *big.Int {
	s := new(big.Int)
	for _, n := range l {
		s.Add(s, n)
	}
	return s
}

// between is a / by, rounded down, to b / by, rounded up, both times 1000000; by is above 0.
func between(a, b, by *big.Int) api.Range {
	return span(int(downBig(times(1000000, a), by).Int64()), int(upBig(times(1000000, b), by).Int64()))
}

// meeting is the numbers a, b and c of the chapter.
func meeting(c api.Conic, y api.Ray) (a, b, k *big.Int) {
	s, q := c.K.Num+c.K.Den, c.K.Den
	a = sum(product(q, y.ToR, y.ToR), product(s, y.ToZ, y.ToZ))
	b = sum(product(q, y.R, y.ToR), product(-q, c.Radius, y.ToZ), product(s, y.Z, y.ToZ))
	k = sum(product(q, y.R, y.R), product(-2, q, c.Radius, y.Z), product(s, y.Z, y.Z))
	return a, b, k
}

// hit is what Hit is to return.
func hit(c api.Conic, y api.Ray) ([2]api.Range, api.Errno) {
	if e := rayError(c, y); e != api.OK {
		return [2]api.Range{}, e
	}
	a, b, k := meeting(c, y)
	if a.Sign() < 0 || a.Sign() == 0 && b.Sign() < 0 {
		a, b, k = a.Neg(a), b.Neg(b), k.Neg(k)
	}
	minus := times(-1, b)
	if a.Sign() == 0 {
		if b.Sign() == 0 {
			return [2]api.Range{}, api.ErrNone
		}
		at := between(times(-1, k), times(-1, k), times(2, b))
		return [2]api.Range{at, at}, api.OK
	}
	under := new(big.Int).Mul(b, b)
	under.Sub(under, new(big.Int).Mul(a, k))
	if under.Sign() < 0 {
		return [2]api.Range{}, api.ErrNone
	}
	lo, hi := new(big.Int).Sqrt(under), rootUpBig(under)
	return [2]api.Range{
		between(sum(minus, times(-1, hi)), sum(minus, times(-1, lo)), a), between(sum(minus, lo), sum(minus, hi), a),
	}, api.OK
}

// someRay is a ray within the limits, often near a conic or with ends at the limits.
func someRay(random *rand.Rand, c api.Conic) api.Ray {
	place := func() int {
		near := min(max(c.Radius, -100000), 50000)
		limit := []int{3, 100, min(2*max(near, -near), 100000), 100000}[random.IntN(4)]
		if random.IntN(8) == 0 {
			return limit
		}
		return random.IntN(2*limit+1) - limit
	}
	step := func() int {
		limit := []int{0, 1, 10, 100}[random.IntN(4)]
		return random.IntN(2*limit+1) - limit
	}
	return api.Ray{R: place(), Z: place(), ToR: step(), ToZ: step()}
}

func TestP2_5Hit(t *testing.T) {
	random := rand.New(rand.NewPCG(2, 5))
	counts := map[api.Errno]int{}
	for _, c := range append(rayConics(), badRayConics...) {
		for range 1000 {
			y := someRay(random, c)
			got, e := optics.Hit(c, y)
			if want, e2 := hit(c, y); got != want || e != e2 {
				t.Fatal(c, y, got, e, want, e2)
			}
			counts[e]++
		}
	}
	if counts[api.OK] < 10000 || counts[api.ErrNone] < 10000 {
		t.Error("too few of a kind", counts)
	}
}

func TestP2_5HitExamples(t *testing.T) {
	both := func(lo, hi int) [2]api.Range { return [2]api.Range{span(lo, hi), span(lo, hi)} }
	sphere, hyperbola := conic(50, 0, 1), conic(50, -2, 1)
	for _, x := range []struct {
		what string
		c    api.Conic
		y    api.Ray
		want [2]api.Range
		e    api.Errno
	}{
		{"a is 0", conic(100, -1, 1), api.Ray{R: 30, Z: 200, ToZ: -1}, both(195500000, 195500000), api.OK},
		{"a is 0, b below 0", hyperbola, api.Ray{R: 5, ToR: 1, ToZ: 1}, both(277777, 277778), api.OK},
		{"an asymptote", hyperbola, api.Ray{Z: -50, ToR: 1, ToZ: 1}, [2]api.Range{}, api.ErrNone},
		{"a is below 0", hyperbola, api.Ray{ToZ: 1}, [2]api.Range{span(-100000000, -100000000), span(0, 0)}, api.OK},
		{"both sides", sphere, api.Ray{Z: 10, ToR: 1}, [2]api.Range{span(-30000000, -30000000), span(30000000, 30000000)}, api.OK},
		{"below", sphere, api.Ray{Z: -1, ToR: 1}, [2]api.Range{}, api.ErrNone},
		{"it touches", sphere, api.Ray{R: 3, ToR: 1}, both(-3000000, -3000000), api.OK},
		{"the far half", sphere, api.Ray{Z: 100, ToR: 3}, both(0, 0), api.OK},
		{"behind the beginning", sphere, api.Ray{Z: 200, ToZ: 3}, [2]api.Range{span(-66666667, -66666666), span(-33333334, -33333333)}, api.OK},
		{"before it", sphere, api.Ray{Z: 200, ToZ: -3}, [2]api.Range{span(33333333, 33333334), span(66666666, 66666667)}, api.OK},
		{"a root that is not whole", sphere, api.Ray{Z: 2, ToR: 1, ToZ: 1}, [2]api.Range{span(-2000000, -1500000), span(49500000, 50000000)}, api.OK},
	} {
		if got, e := optics.Hit(x.c, x.y); got != x.want || e != x.e {
			t.Error(x.what, x.c, x.y, got, e)
		}
	}
}

func TestP2_5HitErrors(t *testing.T) {
	c := conic(50, 0, 1)
	for y, want := range map[api.Ray]api.Errno{
		{R: 100001, ToR: 1}: api.ErrRange, {R: -100001, ToR: 1}: api.ErrRange, {Z: 100001, ToR: 1}: api.ErrRange,
		{Z: -100001, ToR: 1}: api.ErrRange, {ToR: 101}: api.ErrRange, {ToR: -101}: api.ErrRange, {ToZ: 101}: api.ErrRange,
		{ToZ: -101}: api.ErrRange, {R: math.MinInt}: api.ErrRange, {Z: math.MinInt}: api.ErrRange,
		{ToR: math.MinInt}: api.ErrRange, {ToZ: math.MinInt, ToR: 1}: api.ErrRange, {}: api.ErrZero, {R: 100000, Z: -100000}: api.ErrZero,
		{R: 100001}: api.ErrRange, {R: 100000, Z: 100000, ToR: 100, ToZ: -100}: api.ErrNone,
	} {
		if got, e := optics.Hit(c, y); got != [2]api.Range{} || e != want {
			t.Error(y, got, e, want)
		}
		for _, c := range badRayConics {
			if got, e := optics.Hit(c, y); got != [2]api.Range{} || e != rayConicError(c) {
				t.Error(c, y, got, e)
			}
		}
	}
}

// contains tells whether a range contains a number that is known to some hundred digits.
func contains(r api.Range, n *big.Float) bool {
	slip := big.NewFloat(1e-60)
	above := new(big.Float).Sub(n, new(big.Float).SetInt64(int64(r.Lo)))
	below := new(big.Float).Sub(new(big.Float).SetInt64(int64(r.Hi)), n)
	return above.Add(above, slip).Sign() >= 0 && below.Add(below, slip).Sign() >= 0
}

func TestP2_5HitEncloses(t *testing.T) {
	random := rand.New(rand.NewPCG(55, 2))
	float := func(n *big.Int) *big.Float { return new(big.Float).SetPrec(400).SetInt(n) }
	tried := 0
	for _, c := range rayConics() {
		for range 300 {
			y := someRay(random, c)
			ranges, e := optics.Hit(c, y)
			a, b, k := meeting(c, y)
			if e != api.OK || a.Sign() == 0 {
				continue
			}
			root := float(sum(new(big.Int).Mul(b, b), times(-1, new(big.Int).Mul(a, k))))
			root.Sqrt(root)
			if a.Sign() > 0 { // the lesser one first
				root.Neg(root)
			}
			for i := range 2 {
				n := new(big.Float).Add(float(times(-1, b)), root)
				n.Mul(n, float(integer(1000000)))
				if n.Quo(n, float(a)); !contains(ranges[i], n) {
					t.Fatal(c, y, ranges, i, n)
				}
				root.Neg(root)
			}
			tried++
		}
	}
	if tried < 1000 {
		t.Error("too few", tried)
	}
}

func TestP2_6Reflect(t *testing.T) {
	c, p := conic(100, -1, 1), api.Spot{R: whole(30), Z: frac(9, 2)}
	if d, e := optics.Reflect(c, p, [2]int{0, -1}); d != [2]api.Frac{frac(-60, 109), frac(91, 109)} || e != api.OK {
		t.Error(d, e)
	}
	random := rand.New(rand.NewPCG(6, 2))
	counts := map[api.Errno]int{}
	for _, c := range rayConics() {
		for range 500 {
			r, z := someSpot(random, c)
			p := api.Spot{R: fracOf(r), Z: fracOf(z)}
			toward := [2]int{random.IntN(2001) - 1000, random.IntN(2001) - 1000}
			if fracError(p.R) != api.OK || fracError(p.Z) != api.OK || toward == [2]int{} {
				continue
			}
			d, e := optics.Reflect(c, p, toward)
			if want, e2 := back(c, p, toward); d != want || e != e2 {
				t.Fatal(c, p, toward, d, e, want, e2)
			}
			counts[e]++
		}
	}
	if counts[api.OK] < 1000 || counts[api.ErrLarge] < 1000 || counts[api.ErrState] < 1000 {
		t.Error("too few of a kind", counts)
	}
}

func TestP2_6ReflectErrors(t *testing.T) {
	c, on := conic(100, -1, 1), api.Spot{R: whole(30), Z: frac(9, 2)}
	beside, far := api.Spot{R: whole(30), Z: whole(4)}, api.Spot{R: whole(100000), Z: whole(4)}
	for _, x := range []struct {
		c      api.Conic
		p      api.Spot
		toward [2]int
		e      api.Errno
	}{
		{c, on, [2]int{1001, 0}, api.ErrRange}, {c, on, [2]int{0, -1001}, api.ErrRange},
		{c, on, [2]int{math.MinInt, 0}, api.ErrRange}, {c, far, [2]int{0, math.MinInt}, api.ErrRange},
		{c, on, [2]int{}, api.ErrZero}, {c, far, [2]int{}, api.ErrZero}, {c, beside, [2]int{}, api.ErrZero},
		{c, far, [2]int{0, 1}, api.ErrLarge}, {c, beside, [2]int{0, 1}, api.ErrState},
		{c, api.Spot{R: frac(2, 4), Z: whole(1)}, [2]int{1001, 0}, api.ErrForm},
		{conic(5, 2, 4), api.Spot{}, [2]int{}, api.ErrForm}, {conic(200001, 0, 1), api.Spot{}, [2]int{}, api.ErrRange},
	} {
		if d, e := optics.Reflect(x.c, x.p, x.toward); d != [2]api.Frac{} || e != x.e {
			t.Error(x.c, x.p, x.toward, d, e)
		}
	}
	for _, toward := range [][2]int{{1000, 0}, {0, -1000}, {0, 1}} {
		if _, e := optics.Reflect(c, on, toward); e != api.OK {
			t.Error(toward, e)
		}
	}
}

func TestP2_6HeightAt(t *testing.T) {
	p, d := api.Spot{R: whole(30), Z: frac(9, 2)}, [2]api.Frac{frac(-60, 109), frac(91, 109)}
	if h, e := optics.HeightAt(p, d, whole(50)); h != whole(0) || e != api.OK {
		t.Error(h, e)
	}
	random := rand.New(rand.NewPCG(66, 2))
	counts := map[api.Errno]int{}
	for range 20000 {
		m, n := someMatrix(random), someMatrix(random)
		p, toward, z := api.Spot{R: m.A, Z: m.B}, [2]api.Frac{m.C, m.D}, n.A
		want, e2 := api.Frac{}, api.ErrZero
		if m.D.Num != 0 {
			var x exact
			quotient := x.quo(rat(m.C), rat(m.D))
			h := x.add(rat(m.A), x.mul(x.sub(rat(z), rat(m.B)), quotient))
			e2 = x.error()
			if e2 == api.OK {
				want = fracOf(h)
			}
		}
		if h, e := optics.HeightAt(p, toward, z); h != want || e != e2 {
			t.Fatal(p, toward, z, h, e, want, e2)
		}
		counts[e2]++
	}
	if counts[api.OK] < 1000 || counts[api.ErrLarge] < 1000 || counts[api.ErrZero] < 500 {
		t.Error("too few of a kind", counts)
	}
}

func TestP2_6HeightAtErrors(t *testing.T) {
	for i := range 5 {
		for _, f := range badFracs {
			for _, g := range badFracs {
				l := [5]api.Frac{whole(1), whole(2), whole(3), whole(0), whole(4)}
				l[i] = f
				if i < 4 {
					l[i+1] = g
				}
				h, e := optics.HeightAt(api.Spot{R: l[0], Z: l[1]}, [2]api.Frac{l[2], l[3]}, l[4])
				if h != (api.Frac{}) || e != fracError(f) {
					t.Error(l, h, e)
				}
			}
		}
	}
	if h, e := optics.HeightAt(api.Spot{R: whole(1), Z: whole(2)}, [2]api.Frac{whole(0), whole(0)}, whole(3)); h != (api.Frac{}) || e != api.ErrZero {
		t.Error(h, e)
	}
}

func TestP2_6SpotOf(t *testing.T) {
	many := make([]api.Frac, 61)
	for i := range many {
		many[i] = frac(2*i+1, 2)
	}
	for _, x := range []struct {
		l    []api.Frac
		want api.Range
		e    api.Errno
	}{
		{[]api.Frac{frac(-1, 2), frac(7, 3)}, span(-1, 3), api.OK},
		{[]api.Frac{frac(7, 3), frac(-1, 2), whole(1)}, span(-1, 3), api.OK},
		{[]api.Frac{whole(5)}, span(5, 5), api.OK},
		{[]api.Frac{frac(11, 2), frac(26, 5)}, span(5, 6), api.OK},
		{[]api.Frac{whole(-1000000000), whole(1000000000)}, span(-1000000000, 1000000000), api.OK},
		{many[:60], span(0, 60), api.OK},
		{many, api.Range{}, api.ErrLarge},
		{make([]api.Frac, 61), api.Range{}, api.ErrLarge},
		{nil, api.Range{}, api.ErrShape},
		{[]api.Frac{}, api.Range{}, api.ErrShape},
		{[]api.Frac{whole(1), whole(api.MaxPart + 1), frac(2, 4)}, api.Range{}, api.ErrRange},
		{[]api.Frac{whole(1), frac(2, 4), whole(api.MaxPart + 1)}, api.Range{}, api.ErrForm},
		{[]api.Frac{{}}, api.Range{}, api.ErrForm},
	} {
		if r, e := optics.SpotOf(x.l); r != x.want || e != x.e {
			t.Error(x.l, r, e)
		}
	}
}

func TestP2_11FocusOfParaboloids(t *testing.T) {
	tried := 0
	for _, radius := range []int{1, 2, 3, 50, 100, 999, 6000, -1, -2, -100, -777} {
		focus := fracOf(big.NewRat(int64(radius), 2))
		for height := -300; height <= 300; height++ {
			p := api.Spot{R: whole(height), Z: fracOf(big.NewRat(int64(height*height), int64(2*radius)))}
			for _, along := range []int{-1, 1, 7} {
				d, e := optics.Reflect(conic(radius, -1, 1), p, [2]int{0, along})
				if e == api.ErrLarge {
					continue
				}
				if e != api.OK {
					t.Fatal(radius, p, d, e)
				}
				h, e := optics.HeightAt(p, d, focus)
				if e == api.ErrZero && max(height, -height) == max(radius, -radius) { // reflected across the axis, at the focus
					h, e = whole(0), api.OK
					if p.Z != focus || d[1].Num != 0 {
						t.Fatal(radius, p, d)
					}
				}
				if e == api.OK {
					tried++
				}
				if e != api.ErrLarge && h != whole(0) {
					t.Fatal(radius, p, d, h, e)
				}
			}
		}
	}
	if tried < 1000 {
		t.Error("too few", tried)
	}
}

func TestP2_11ReflectedTwice(t *testing.T) {
	random := rand.New(rand.NewPCG(12, 2))
	tried := 0
	for _, c := range rayConics() {
		for range 1000 {
			r, z := someSpot(random, c)
			p, toward := api.Spot{R: fracOf(r), Z: fracOf(z)}, [2]int{random.IntN(21) - 10, random.IntN(21) - 10}
			d, e := optics.Reflect(c, p, toward)
			if e != api.OK {
				continue
			}
			square := new(big.Rat).Add(new(big.Rat).Mul(rat(d[0]), rat(d[0])), new(big.Rat).Mul(rat(d[1]), rat(d[1])))
			if square.Cmp(ratOf(toward[0]*toward[0]+toward[1]*toward[1])) != 0 {
				t.Fatal("another length", c, p, toward, d)
			}
			// The direction times a whole number is whole; it is reflected to the first one times this number.
			by := d[0].Den * d[1].Den
			again, e := optics.Reflect(c, p, [2]int{d[0].Num * d[1].Den, d[1].Num * d[0].Den})
			if e != api.OK {
				continue
			}
			if again != [2]api.Frac{whole(by * toward[0]), whole(by * toward[1])} {
				t.Fatal("not the first direction", c, p, toward, d, again)
			}
			tried++
		}
	}
	if tried < 500 {
		t.Error("too few", tried)
	}
}

package figure_test

import (
	"math"
	"math/big"
	"math/rand/v2"
	"testing"

	"speculum/api"
	"speculum/figure"
)

// lined is the arguments of all functions of maps and lines, of which valid ones are accepted.
type lined struct {
	m api.RemovalMap
	l api.LowerLine
}

func removalMap(heights, q, weights []int) api.RemovalMap {
	return api.RemovalMap{Heights: heights, Q: q, Weights: weights}
}

func line(start, slope api.Frac, first, second int) api.LowerLine {
	return api.LowerLine{Start: start, Slope: slope, Touch: [2]int{first, second}}
}

// validLined is the chapter's first example.
func validLined() lined {
	return lined{removalMap([]int{10, 4, 6, 12}, []int{0, 1, 2, 3}, []int{1, 1, 1, 1}), line(frac(2, 1), frac(2, 1), 1, 2)}
}

// sums is the sum of weight times q, and that of the weights.
func sums(m api.RemovalMap) (int, int) {
	sum, weights := 0, 0
	for zone, weight := range m.Weights {
		sum, weights = sum+weight*m.Q[zone], weights+weight
	}
	return sum, weights
}

// removal is what a line leaves of a zone, by the definition.
func removal(x lined, zone int) *big.Rat {
	height := new(big.Rat).Mul(ratio(x.l.Slope.Num, x.l.Slope.Den), ratio(x.m.Q[zone], 1))
	height.Add(height, ratio(x.l.Start.Num, x.l.Start.Den))
	return height.Sub(ratio(x.m.Heights[zone], 1), height)
}

// removed is the sum of a line.
func removed(x lined) *big.Rat {
	of := new(big.Rat)
	for zone, weight := range x.m.Weights {
		of.Add(of, new(big.Rat).Mul(removal(x, zone), ratio(weight, 1)))
	}
	return of
}

// dug is the first zone whose removal is below 0, or -1.
func dug(x lined) int {
	for zone := range x.m.Heights {
		if removal(x, zone).Sign() < 0 {
			return zone
		}
	}
	return -1
}

// isProved tells whether the zones of a line prove, by the definition, that it is one of least removal.
func isProved(x lined) bool {
	first, second := x.l.Touch[0], x.l.Touch[1]
	sum, weights := sums(x.m)
	return removal(x, first).Sign() == 0 && removal(x, second).Sign() == 0 && x.m.Q[first]*weights <= sum && x.m.Q[second]*weights >= sum
}

// rational is a number as a fraction.
func rational(n *big.Rat) api.Frac {
	return api.Frac{Num: int(n.Num().Int64()), Den: int(n.Denom().Int64())}
}

// mapError is the error of all functions of maps, and of a line that is valid.
func mapError(t *testing.T, x lined) api.Errno {
	t.Helper()
	mean, e1 := figure.Mean(x.m)
	none(t, e1, mean == api.Frac{})
	l, e2 := figure.Reference(x.m)
	none(t, e2, l == api.LowerLine{})
	least, e3 := figure.Least(x.m)
	none(t, e3, least == api.Frac{})
	e4 := referenceError(t, x)
	if e4 == api.ErrBreak || e4 == api.ErrProof {
		e4 = api.OK
	}
	return agree(t, figure.CheckMap(x.m), e1, e2, e3, e4, removalError(t, x))
}

func removalError(t *testing.T, x lined) api.Errno {
	t.Helper()
	l, e := figure.Removal(x.m, x.l)
	none(t, e, l == nil)
	return e
}

func referenceError(t *testing.T, x lined) api.Errno {
	t.Helper()
	n, e := figure.CheckReference(x.m, x.l)
	if e == api.ErrBreak {
		if want := dug(x); n != want {
			t.Error("dug", n, want, x)
		}
		return e
	}
	if n != 0 {
		t.Error("a number beside", e)
	}
	return e
}

// mapFaults are the faults of a map.
func mapFaults() []fault[lined] {
	l := []fault[lined]{
		{func(x *lined) { x.m.Heights = nil }, api.ErrShape},
		{func(x *lined) { x.m = api.RemovalMap{} }, api.ErrShape},
		{func(x *lined) { x.m = removalMap(make([]int, 41), make([]int, 41), make([]int, 41)) }, api.ErrShape},
		{func(x *lined) { x.m.Heights = x.m.Heights[:3] }, api.ErrShape},
		{func(x *lined) { x.m.Q = append(x.m.Q, 1) }, api.ErrShape},
		{func(x *lined) { x.m.Q = x.m.Q[:2] }, api.ErrShape},
		{func(x *lined) { x.m.Weights = append(x.m.Weights, 1) }, api.ErrShape},
		{func(x *lined) { x.m.Weights = nil }, api.ErrShape},
	}
	for _, zone := range []int{0, 2, 3} {
		l = append(l, numberFaults(func(x *lined) *int { return &four(&x.m.Heights)[zone] }, -100000, 100000, api.ErrRange)...)
		l = append(l, numberFaults(func(x *lined) *int { return &four(&x.m.Q)[zone] }, 0, 1000, api.ErrRange)...)
		l = append(l, numberFaults(func(x *lined) *int { return &four(&x.m.Weights)[zone] }, 0, 1000, api.ErrRange)...)
	}
	return append(l, fault[lined]{func(x *lined) { x.m.Weights = make([]int, 4) }, api.ErrZero})
}

// four is a list, of which a fault may have left too little.
func four(l *[]int) []int {
	for len(*l) < 4 {
		*l = append(*l, 0)
	}
	return *l
}

// lineFaults are the faults of a line.
func lineFaults() []fault[lined] {
	var l []fault[lined]
	fields := []func(x *lined) *api.Frac{func(x *lined) *api.Frac { return &x.l.Start }, func(x *lined) *api.Frac { return &x.l.Slope }}
	for _, field := range fields {
		for _, f := range []api.Frac{
			{}, frac(4, 2), frac(0, 2), frac(0, -1), frac(2, 0), frac(1, 0), frac(-2, -1), frac(1, -1000), frac(2002, 1001), frac(-6, 9), frac(2000000000, 2), frac(1000, 1000),
			frac(math.MinInt, math.MinInt), frac(math.MinInt, 2), frac(2, math.MinInt), frac(math.MaxInt, math.MaxInt), frac(0, math.MaxInt), frac(math.MinInt, 0),
		} {
			l = append(l, fault[lined]{func(x *lined) { *field(x) = f }, api.ErrForm})
		}
	}
	for _, field := range fields {
		for _, f := range []api.Frac{
			frac(2, 1001), frac(1, 1001), frac(-1, math.MaxInt), frac(1000000001, 1), frac(-1000000001, 1), frac(1000000001, 1000), frac(math.MinInt, 1), frac(math.MaxInt, 1), frac(math.MinInt, math.MaxInt),
		} {
			l = append(l, fault[lined]{func(x *lined) { *field(x) = f }, api.ErrRange})
		}
	}
	return l
}

func TestP6_1Faults(t *testing.T) {
	checkFaults(t, validLined, mapError, mapFaults())
	for zone := range 4 {
		checkLimits(t, validLined, mapError, func(x *lined) *int { return &x.m.Heights[zone] }, -100000, 100000)
		checkLimits(t, validLined, mapError, func(x *lined) *int { return &x.m.Q[zone] }, 0, 1000)
		checkLimits(t, validLined, mapError, func(x *lined) *int { return &x.m.Weights[zone] }, 0, 1000)
	}
	for zones := range 43 {
		want := api.OK
		if zones < 1 || zones > 40 {
			want = api.ErrShape
		}
		weights := make([]int, zones)
		if zones > 0 {
			weights[zones-1] = 1
		}
		if e := figure.CheckMap(removalMap(make([]int, zones), make([]int, zones), weights)); e != want {
			t.Error(zones, e)
		}
	}
}

func TestP6_1Mean(t *testing.T) {
	for _, x := range []struct {
		q, weights []int
		want       api.Frac
	}{
		{[]int{0, 1, 2, 3}, []int{1, 1, 1, 1}, frac(3, 2)},
		{[]int{0, 1, 2, 3}, []int{0, 1, 0, 0}, frac(1, 1)},
		{[]int{0, 9}, []int{5, 0}, frac(0, 1)},
		{[]int{7}, []int{1000}, frac(7, 1)},
		{[]int{1000, 1000}, []int{1000, 1}, frac(1000, 1)},
		{[]int{1000, 0, 1}, []int{1, 999, 1000}, frac(2000, 2000)},
		{[]int{4, 6}, []int{2, 4}, frac(16, 3)},
	} {
		x.want = rational(ratio(x.want.Num, x.want.Den))
		if f, e := figure.Mean(removalMap(make([]int, len(x.q)), x.q, x.weights)); f != x.want || e != api.OK {
			t.Error(x, f, e)
		}
	}
	random := rand.New(rand.NewPCG(6, 1))
	for range 3000 {
		m := someMap(random)
		sum, weights := sums(m)
		if f, e := figure.Mean(m); !isFrac(f, ratio(sum, weights)) || e != api.OK {
			t.Fatal(m, f, e)
		}
	}
}

// someNumbers is so many numbers from least to most, now and then the least and the greatest ones alone.
func someNumbers(random *rand.Rand, count, least, most int) []int {
	l := make([]int, count)
	ends := random.IntN(6) == 0
	for i := range l {
		l[i] = least + random.IntN(most-least+1)
		if ends {
			l[i] = []int{least, most}[random.IntN(2)]
		}
	}
	return l
}

// someMap is a valid map.
func someMap(random *rand.Rand) api.RemovalMap {
	zones := 1 + random.IntN([]int{4, 40}[random.IntN(2)])
	height := []int{2, 30, 100000}[random.IntN(3)]
	q := []int{1, 4, 50, 1000}[random.IntN(4)]
	weight := []int{1, 3, 1000}[random.IntN(3)]
	least := -height
	if random.IntN(4) == 0 {
		least = height - 2
	}
	m := removalMap(someNumbers(random, zones, least, height), someNumbers(random, zones, 0, q), someNumbers(random, zones, 0, weight))
	if random.IntN(3) == 0 { // a bowl: most zones are touched by some line
		for zone := range m.Heights {
			m.Heights[zone] = m.Q[zone]*m.Q[zone]/11 - 1000 + random.IntN(2)
		}
	}
	m.Weights[random.IntN(zones)] = weight
	return m
}

func TestP6_2Faults(t *testing.T) {
	before := append(mapFaults(), lineFaults()...)
	checkFaults(t, validLined, removalError, before)
	touch := func(first, second int, want api.Errno) fault[lined] {
		return fault[lined]{func(x *lined) { x.l.Touch = [2]int{first, second} }, want}
	}
	faults := append(before,
		fault[lined]{func(x *lined) { x.l.Start = frac(3, 1) }, api.ErrBreak},
		fault[lined]{func(x *lined) { x.l.Start = frac(2001, 1000) }, api.ErrBreak},
		fault[lined]{func(x *lined) { x.l.Slope = frac(1000000000, 1) }, api.ErrBreak},
		fault[lined]{func(x *lined) { x.l.Slope = frac(10, 3) }, api.ErrBreak},
	)
	for _, bad := range []int{-1, 4, 40, math.MinInt, math.MaxInt} {
		faults = append(faults, touch(bad, 2, api.ErrMissing), touch(1, bad, api.ErrMissing), touch(bad, bad, api.ErrMissing))
	}
	faults = append(faults,
		touch(0, 1, api.ErrProof), touch(1, 3, api.ErrProof), touch(0, 3, api.ErrProof), // not touched
		touch(2, 1, api.ErrProof), touch(1, 1, api.ErrProof), touch(2, 2, api.ErrProof), // on the wrong side
		fault[lined]{func(x *lined) { x.l.Start = frac(1999, 1000) }, api.ErrProof},
	)
	checkFaults(t, validLined, referenceError, faults)
}

// TestP6_2Zones checks by a line along the q axis which zones prove that it is one of least removal.
func TestP6_2Zones(t *testing.T) {
	flat := func(first, second int) api.LowerLine { return line(frac(4, 1), frac(0, 1), first, second) }
	for _, x := range []struct {
		m    api.RemovalMap
		l    api.LowerLine
		n    int
		want api.Errno
	}{
		// the chapter's second example
		{removalMap([]int{10, 4, 6, 12}, []int{0, 1, 2, 3}, []int{0, 1, 0, 0}), flat(1, 1), 0, api.OK},
		{removalMap([]int{10, 4, 6, 12}, []int{0, 1, 2, 3}, []int{0, 1, 0, 0}), line(frac(2, 1), frac(2, 1), 1, 1), 0, api.OK},
		{removalMap([]int{10, 4, 6, 12}, []int{0, 1, 2, 3}, []int{0, 1, 0, 0}), line(frac(2, 1), frac(2, 1), 1, 2), 0, api.OK},
		{removalMap([]int{10, 4, 6, 12}, []int{0, 1, 2, 3}, []int{0, 1, 0, 0}), line(frac(2, 1), frac(2, 1), 2, 1), 0, api.ErrProof},
		{removalMap([]int{10, 4, 6, 12}, []int{0, 1, 2, 3}, []int{0, 1, 0, 0}), line(frac(2, 1), frac(2, 1), 2, 2), 0, api.ErrProof},
		// zones of the same q, in any order of numbers
		{removalMap([]int{4, 4}, []int{5, 5}, []int{1, 1}), flat(0, 1), 0, api.OK},
		{removalMap([]int{4, 4}, []int{5, 5}, []int{1, 1}), flat(1, 0), 0, api.OK},
		{removalMap([]int{4, 4}, []int{5, 5}, []int{1, 1}), line(frac(-996, 1), frac(200, 1), 0, 0), 0, api.OK},
		{removalMap([]int{5, 4}, []int{5, 5}, []int{1, 1}), flat(0, 1), 0, api.ErrProof},
		{removalMap([]int{5, 4}, []int{5, 5}, []int{1, 1}), flat(1, 0), 0, api.ErrProof},
		{removalMap([]int{4, 9, 4}, []int{3, 2, 1}, []int{1, 1, 1}), flat(2, 0), 0, api.OK},
		{removalMap([]int{4, 9, 4}, []int{3, 2, 1}, []int{1, 1, 1}), flat(0, 2), 0, api.ErrProof},
		{removalMap([]int{4, 4, 4}, []int{3, 2, 1}, []int{1, 1, 1}), flat(1, 1), 0, api.OK},
		{removalMap([]int{4, 4, 4}, []int{3, 2, 1}, []int{1, 1, 1}), flat(2, 1), 0, api.OK},
		{removalMap([]int{4, 4, 4}, []int{3, 2, 1}, []int{1, 1, 1}), flat(1, 0), 0, api.OK},
		{removalMap([]int{4, 4, 4}, []int{3, 2, 1}, []int{1, 1, 1}), flat(0, 1), 0, api.ErrProof},
		{removalMap([]int{4, 4, 4}, []int{3, 2, 1}, []int{1, 1, 1}), flat(1, 2), 0, api.ErrProof},
		// a mean that is nearly that of a zone
		{removalMap([]int{4, 4, 9}, []int{1, 0, 2}, []int{1000, 1, 0}), flat(1, 0), 0, api.OK},
		{removalMap([]int{4, 4, 9}, []int{1, 0, 2}, []int{1000, 1, 0}), flat(0, 0), 0, api.ErrProof},
		{removalMap([]int{4, 4, 9}, []int{1, 0, 2}, []int{1000, 0, 1}), flat(0, 0), 0, api.ErrProof},
		{removalMap([]int{4, 4, 9}, []int{1, 0, 2}, []int{1000, 1, 1}), flat(0, 0), 0, api.OK},
		// a zone without weight must not be dug
		{removalMap([]int{4, 3}, []int{1, 1}, []int{1, 0}), flat(0, 0), 1, api.ErrBreak},
		{removalMap([]int{4, -5, 4}, []int{1, 2, 3}, []int{1, 0, 1}), flat(0, 2), 1, api.ErrBreak},
		{removalMap([]int{4, 3, 2}, []int{1, 2, 3}, []int{1, 0, 1}), flat(0, 9), 1, api.ErrBreak},
		// lines far below
		{removalMap([]int{4, 4}, []int{0, 1000}, []int{1, 1}), line(frac(-1000000000, 1), frac(0, 1), 0, 1), 0, api.ErrProof},
		{removalMap([]int{4, 4}, []int{0, 1000}, []int{1, 0}), line(frac(4, 1), frac(-1000000000, 1), 0, 0), 0, api.OK},
		{removalMap([]int{4, 4}, []int{0, 1000}, []int{1, 1}), line(frac(4, 1), frac(-1000000000, 1), 0, 1), 0, api.ErrProof},
		{removalMap([]int{-100000, -100000}, []int{0, 1000}, []int{1, 1}), line(frac(-100000, 1), frac(0, 1), 0, 1), 0, api.OK},
		{removalMap([]int{-100000, 100000}, []int{0, 1000}, []int{1, 1}), line(frac(-100000, 1), frac(200, 1), 0, 1), 0, api.OK},
		{removalMap([]int{100000, -100000}, []int{999, 1000}, []int{1, 1}), line(frac(199900000, 1), frac(-200000, 1), 0, 1), 0, api.OK},
	} {
		if n, e := figure.CheckReference(x.m, x.l); n != x.n || e != x.want {
			t.Error(x, n, e)
		}
	}
}

func TestP6_2Removal(t *testing.T) {
	x := validLined()
	checkRemoval(t, x)
	x.l = line(frac(3, 2), frac(-1, 3), -7, 99) // whatever it touches
	checkRemoval(t, x)
	x.m = removalMap([]int{100000, -100000}, []int{1000, 1000}, []int{1, 0})
	x.l = line(frac(-999999999, 1000), frac(-1000000000, 999), 0, 0)
	checkRemoval(t, x)
	random := rand.New(rand.NewPCG(6, 2))
	for range 3000 {
		checkRemoval(t, lined{someMap(random), someLine(random)})
	}
}

// someLine is a valid line, which need not lie below anything.
func someLine(random *rand.Rand) api.LowerLine {
	f := func() api.Frac {
		num, den := []int{5, 1000, 1000000000}[random.IntN(3)], []int{1, 3, 1000}[random.IntN(3)]
		return rational(ratio(random.IntN(2*num+1)-num, 1+random.IntN(den)))
	}
	return line(f(), f(), random.IntN(9)-4, random.IntN(9)-4)
}

func checkRemoval(t *testing.T, x lined) {
	t.Helper()
	l, e := figure.Removal(x.m, x.l)
	if len(l) != len(x.m.Heights) || e != api.OK {
		t.Fatal(x, l, e)
	}
	for zone, f := range l {
		if !isFrac(f, removal(x, zone)) {
			t.Fatal(x, zone, f)
		}
	}
}

// nearLine is a line through two zones, perhaps a little too high or too low, with zones that it perhaps touches.
func nearLine(random *rand.Rand, m api.RemovalMap) api.LowerLine {
	zone := func() int { return random.IntN(len(m.Heights)) }
	i, j := zone(), zone()
	l := line(frac(m.Heights[i], 1), frac(0, 1), i, j)
	if run := m.Q[j] - m.Q[i]; run != 0 {
		rise := m.Heights[j] - m.Heights[i]
		l.Start, l.Slope = rational(ratio(m.Heights[i]*run-rise*m.Q[i], run)), rational(ratio(rise, run))
	}
	switch random.IntN(6) {
	case 0:
		l.Start.Num += 1 - 2*random.IntN(2)
		l.Start = rational(ratio(l.Start.Num, l.Start.Den))
	case 1:
		l.Touch[random.IntN(2)] = zone()
	case 2:
		l.Touch[random.IntN(2)] = len(m.Heights)
	}
	return l
}

func TestP6_2AgainstBig(t *testing.T) {
	random := rand.New(rand.NewPCG(2, 6))
	counts := map[api.Errno]int{}
	for range 20000 {
		x := lined{m: someMap(random)}
		x.l = nearLine(random, x.m)
		n, want := dug(x), api.ErrBreak
		if n < 0 {
			n, want = 0, api.OK
			if max(x.l.Touch[0], x.l.Touch[1]) == len(x.m.Heights) {
				want = api.ErrMissing
			} else if !isProved(x) {
				want = api.ErrProof
			}
		}
		counts[want]++
		if number, e := figure.CheckReference(x.m, x.l); number != n || e != want {
			t.Fatal(x, number, e, n, want)
		}
	}
	for _, e := range []api.Errno{api.OK, api.ErrBreak, api.ErrMissing, api.ErrProof} {
		if counts[e] < 300 {
			t.Error("too few of a kind", e, counts)
		}
	}
}

// leastByTrial is the least sum of all lines through two zones that lie below; where all zones have the same q, that of
// a line through the lowest one.
func leastByTrial(m api.RemovalMap) *big.Rat {
	var least *big.Rat
	try := func(l api.LowerLine) {
		if x := (lined{m, l}); dug(x) < 0 {
			if sum := removed(x); least == nil || sum.Cmp(least) < 0 {
				least = sum
			}
		}
	}
	isSame := true
	for i := range m.Q {
		for j := range m.Q {
			if run := m.Q[j] - m.Q[i]; run > 0 {
				rise := m.Heights[j] - m.Heights[i]
				try(line(rational(ratio(m.Heights[i]*run-rise*m.Q[i], run)), rational(ratio(rise, run)), i, j))
				isSame = false
			}
		}
	}
	for zone := range m.Q {
		if isSame {
			try(line(frac(m.Heights[zone], 1), frac(0, 1), zone, zone))
		}
	}
	return least
}

func TestP6_2Least(t *testing.T) {
	for _, x := range []struct {
		m    api.RemovalMap
		want api.Frac
	}{
		{validLined().m, frac(12, 1)},
		{removalMap([]int{10, 4, 6, 12}, []int{0, 1, 2, 3}, []int{0, 1, 0, 0}), frac(0, 1)},
		{removalMap([]int{10, 4, 6, 12}, []int{0, 1, 2, 3}, []int{3, 0, 0, 0}), frac(0, 1)},
		{removalMap([]int{10, 4, 6, 12}, []int{0, 1, 2, 3}, []int{2, 1, 0, 0}), frac(0, 1)},
		{removalMap([]int{7}, []int{3}, []int{9}), frac(0, 1)},
		{removalMap([]int{7, 5}, []int{3, 3}, []int{9, 1}), frac(18, 1)},
		{removalMap([]int{0, 1, 1}, []int{0, 1, 3}, []int{0, 1, 0}), frac(2, 3)},
		{removalMap([]int{0, 1, 1}, []int{0, 1, 3}, []int{1, 6, 1}), frac(4, 1)},
		{removalMap([]int{5, 9, 5}, []int{2, 1, 0}, []int{0, 0, 4}), frac(0, 1)},
		{removalMap([]int{-100000, 100000, -100000}, []int{0, 1, 1000}, []int{0, 1000, 0}), frac(200000000, 1)},
	} {
		if f, e := figure.Least(x.m); f != x.want || e != api.OK {
			t.Error(x, f, e)
		}
	}
	random := rand.New(rand.NewPCG(62, 6))
	whole := 0
	for range 600 {
		m := someMap(random)
		f, e := figure.Least(m)
		if !isFrac(f, leastByTrial(m)) || e != api.OK {
			t.Fatal(m, f, e, leastByTrial(m))
		}
		if f.Den == 1 {
			whole++
		}
	}
	if whole < 100 || whole > 500 {
		t.Error("too few of a kind", whole)
	}
}

func TestP6_2Reference(t *testing.T) {
	x := validLined()
	if l, e := figure.Reference(x.m); l != x.l || e != api.OK {
		t.Error(l, e)
	}
	random := rand.New(rand.NewPCG(26, 6))
	kinds := map[string]int{}
	for range 6000 {
		x := lined{m: someMap(random)}
		l, e := figure.Reference(x.m)
		if x.l = l; e != api.OK || l.Start != rational(ratio(l.Start.Num, l.Start.Den)) || l.Slope != rational(ratio(l.Slope.Num, l.Slope.Den)) {
			t.Fatal(x, e)
		}
		if dug(x) >= 0 || min(l.Touch[0], l.Touch[1]) < 0 || max(l.Touch[0], l.Touch[1]) >= len(x.m.Heights) || !isProved(x) {
			t.Fatal(x)
		}
		if x.m.Q[l.Touch[0]] == x.m.Q[l.Touch[1]] {
			kinds["same"]++
		} else if l.Start.Den > 1 || l.Slope.Den > 1 {
			kinds["fractions"]++
		} else {
			kinds["whole"]++
		}
	}
	if kinds["same"] < 100 || kinds["fractions"] < 1000 || kinds["whole"] < 1000 {
		t.Error("too few of a kind", kinds)
	}
}

// TestP6_8LeastRemoval checks that no line that lies below has a less sum, and what the functions say of one another.
func TestP6_8LeastRemoval(t *testing.T) {
	random := rand.New(rand.NewPCG(8, 6))
	for range 3000 {
		x := lined{m: someMap(random)}
		x.l, _ = figure.Reference(x.m)
		least, _ := figure.Least(x.m)
		if n, e := figure.CheckReference(x.m, x.l); n != 0 || e != api.OK {
			t.Fatal(x, n, e)
		}
		removals, _ := figure.Removal(x.m, x.l)
		sum := new(big.Rat)
		for zone, f := range removals {
			sum.Add(sum, new(big.Rat).Mul(ratio(f.Num, f.Den), ratio(x.m.Weights[zone], 1)))
		}
		if !isFrac(least, sum) {
			t.Fatal(x, least, sum)
		}
		for range 5 {
			y := lined{x.m, someLine(random)}
			y.l.Start = frac(0, 1)
			deepest := removal(y, 0)
			for zone := range y.m.Heights {
				if r := removal(y, zone); r.Cmp(deepest) < 0 {
					deepest = r
				}
			}
			if y.l.Start = rational(deepest); dug(y) >= 0 || removed(y).Cmp(sum) < 0 {
				t.Fatal(x, y, least)
			}
		}
	}
}

func TestP6_8Raised(t *testing.T) {
	random := rand.New(rand.NewPCG(86, 6))
	raised := 0
	for range 3000 {
		x := lined{m: someMap(random)}
		by := random.IntN(2001) - 1000
		y := lined{m: removalMap(nil, x.m.Q, x.m.Weights)}
		for _, height := range x.m.Heights {
			y.m.Heights = append(y.m.Heights, height+by)
		}
		if figure.CheckMap(y.m) != api.OK {
			continue
		}
		raised++
		x.l, _ = figure.Reference(x.m)
		y.l, _ = figure.Reference(y.m)
		start := new(big.Rat).Add(ratio(x.l.Start.Num, x.l.Start.Den), ratio(by, 1))
		if !isFrac(y.l.Start, start) || y.l.Slope != x.l.Slope || y.l.Touch != x.l.Touch {
			t.Fatal(x, y, by)
		}
		least, _ := figure.Least(x.m)
		if f, e := figure.Least(y.m); f != least || e != api.OK {
			t.Fatal(x, y, f, e, least)
		}
		l, _ := figure.Removal(x.m, x.l)
		for zone := range l {
			if f, e := figure.Removal(y.m, y.l); f[zone] != l[zone] || e != api.OK {
				t.Fatal(x, y, f, e)
			}
		}
	}
	if raised < 1000 {
		t.Error("too few", raised)
	}
}

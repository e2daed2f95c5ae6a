package grind_test

import (
	"math/big"
	"math/rand/v2"
	"slices"
	"testing"

	"speculum/api"
	"speculum/grind"
)

func plan(den int, minutes ...int) api.GrindPlan {
	return api.GrindPlan{Minutes: minutes, Den: den}
}

func weights(den int, low, high []int) api.GrindProof {
	return api.GrindProof{Low: low, High: high, Den: den}
}

func planError(t *testing.T, x polish) api.Errno {
	t.Helper()
	w, e := grind.WearBy(x.l, x.p)
	none(t, e, w == nil)
	return agree(t, e, rightError(t, x), compareError(t, x))
}

func rightError(t *testing.T, x polish) api.Errno {
	t.Helper()
	n, e := grind.CheckPlan(x.l, x.d, x.p)
	none(t, e, n == 0 || e == api.ErrBreak) // beside which it is the number of a zone
	return e
}

func weightsError(t *testing.T, x polish) api.Errno {
	t.Helper()
	return agree(t, proofError(t, x), refusalError(t, x), compareError(t, x))
}

func proofError(t *testing.T, x polish) api.Errno {
	t.Helper()
	n, e := grind.CheckProof(x.l, x.d, x.w)
	none(t, e, n == 0)
	return e
}

// refusalError is the error of CheckRefusal, but not that valid weights do not refuse: those of the valid polish prove.
func refusalError(t *testing.T, x polish) api.Errno {
	t.Helper()
	n, e := grind.CheckRefusal(x.l, x.d, x.w)
	none(t, e, n == 0)
	if e == api.ErrForm || e == api.ErrProof {
		return api.OK
	}
	return e
}

func compareError(t *testing.T, x polish) api.Errno {
	t.Helper()
	n, e := grind.Compare(x.l, x.d, api.GrindAnswer{Plan: x.p, Weights: x.w})
	none(t, e, n == 0)
	return e
}

func planFaults() []fault[polish] {
	var l []fault[polish]
	for _, count := range []int{0, 1, 2, 4, 13} {
		l = append(l, fault[polish]{func(x *polish) { x.p.Minutes = make([]int, count) }, api.ErrShape})
	}
	l = append(l, numberFaults(func(x *polish) *int { return &x.p.Den }, 1, 10000000, api.ErrRange)...)
	for i := range 3 {
		l = append(l, numberFaults(func(x *polish) *int { return &x.p.Minutes[i] }, 0, 1000000000, api.ErrRange)...)
	}
	return l
}

func weightFaults() []fault[polish] {
	var l []fault[polish]
	for _, count := range []int{0, 1, 2, 4, 41} {
		l = append(l, fault[polish]{func(x *polish) { x.w.Low = make([]int, count) }, api.ErrShape})
		l = append(l, fault[polish]{func(x *polish) { x.w.High = make([]int, count) }, api.ErrShape})
	}
	l = append(l, numberFaults(func(x *polish) *int { return &x.w.Den }, 1, 10000000, api.ErrRange)...)
	for zone := range 3 {
		l = append(l, numberFaults(func(x *polish) *int { return &x.w.Low[zone] }, 0, 1000000000, api.ErrRange)...)
		l = append(l, numberFaults(func(x *polish) *int { return &x.w.High[zone] }, 0, 1000000000, api.ErrRange)...)
	}
	return l
}

func ratio(n, by int) *big.Rat {
	return big.NewRat(int64(n), int64(by))
}

// wearRat is the wear of a plan, zone by zone, as the chapter defines it.
func wearRat(l []api.Stroke, p api.GrindPlan) []*big.Rat {
	var sums []*big.Rat
	for zone := range l[0].Wear {
		sum := new(big.Rat)
		for i, s := range l {
			sum.Add(sum, new(big.Rat).Mul(ratio(p.Minutes[i], p.Den), ratio(s.Wear[zone], 1)))
		}
		sums = append(sums, sum)
	}
	return sums
}

func timeRat(p api.GrindPlan) *big.Rat {
	sum := new(big.Rat)
	for _, minutes := range p.Minutes {
		sum.Add(sum, ratio(minutes, p.Den))
	}
	return sum
}

// wrongZone is the first zone whose wear is not within a demand, or -1.
func wrongZone(l []api.Stroke, d api.GrindDemand, p api.GrindPlan) int {
	for zone, wear := range wearRat(l, p) {
		if wear.Cmp(ratio(d.Low[zone], 1)) < 0 || wear.Cmp(ratio(d.High[zone], 1)) > 0 {
			return zone
		}
	}
	return -1
}

// greatestPull is the greatest pull of weights.
func greatestPull(l []api.Stroke, w api.GrindProof) *big.Rat {
	var greatest *big.Rat
	for _, s := range l {
		pull := new(big.Rat)
		for zone, wear := range s.Wear {
			weight := new(big.Rat).Sub(ratio(w.Low[zone], w.Den), ratio(w.High[zone], w.Den))
			pull.Add(pull, weight.Mul(weight, ratio(wear, 1)))
		}
		if greatest == nil || pull.Cmp(greatest) > 0 {
			greatest = pull
		}
	}
	return greatest
}

func boundRat(d api.GrindDemand, w api.GrindProof) *big.Rat {
	sum := new(big.Rat)
	for zone := range d.Low {
		sum.Add(sum, new(big.Rat).Mul(ratio(w.Low[zone], w.Den), ratio(d.Low[zone], 1)))
		sum.Sub(sum, new(big.Rat).Mul(ratio(w.High[zone], w.Den), ratio(d.High[zone], 1)))
	}
	return sum
}

// isTimes tells whether n is a number times a denominator.
func isTimes(n int, of *big.Rat, den int) bool {
	return ratio(n, 1).Cmp(new(big.Rat).Mul(of, ratio(den, 1))) == 0
}

func TestP4_4Faults(t *testing.T) {
	checkFaults(t, validPolish, planError, slices.Concat(someFaults(strokeFaults(1)), planFaults()))
	checkFaults(t, validPolish, rightError, slices.Concat(someFaults(strokeFaults(1)), demandFaults(), planFaults(), []fault[polish]{
		{func(x *polish) { x.p.Minutes[1] = 26 }, api.ErrBreak},
	}))
	for _, x := range []struct {
		field       func(x *polish) *int
		least, most int
	}{
		{func(x *polish) *int { return &x.p.Minutes[2] }, 0, 1000000000},
		{func(x *polish) *int { return &x.p.Minutes[1] }, 27, 46},
	} {
		checkLimits(t, validPolish, planError, x.field, x.least, x.most)
	}
	fine := validPolish()
	fine.p = plan(10000000, 13000000, 27000000, 0)
	if e := planError(t, fine); e != api.OK {
		t.Error(e)
	}
	coarse := validPolish()
	coarse.p = plan(1, 2, 3, 1000000000)
	if e := planError(t, coarse); e != api.OK {
		t.Error(e)
	}
}

func TestP4_4WearBy(t *testing.T) {
	l := chapterStrokes()
	for _, x := range []struct {
		p    api.GrindPlan
		want []api.Range
	}{
		{plan(10, 13, 27), []api.Range{{Lo: 12, Hi: 13}, {Lo: 8, Hi: 8}, {Lo: 6, Hi: 7}}},
		{plan(10, 12, 27), []api.Range{{Lo: 12, Hi: 12}, {Lo: 7, Hi: 8}, {Lo: 6, Hi: 7}}},
		{plan(1, 0, 0), []api.Range{{}, {}, {}}},
		{plan(10000000, 1, 0), []api.Range{{Lo: 0, Hi: 1}, {Lo: 0, Hi: 1}, {Lo: 0, Hi: 1}}},
		{plan(1, 1000000000, 1000000000), []api.Range{{Lo: 5000000000, Hi: 5000000000}, {Lo: 4000000000, Hi: 4000000000}, {Lo: 4000000000, Hi: 4000000000}}},
	} {
		if w, e := grind.WearBy(l, x.p); !slices.Equal(w, x.want) || e != api.OK {
			t.Error(x, w, e)
		}
	}
	most := manyStrokes(12, 40)
	for i := range most {
		most[i].Wear = slices.Repeat([]int{100}, 40)
	}
	if w, e := grind.WearBy(most, plan(1, slices.Repeat([]int{1000000000}, 12)...)); len(w) != 40 || w[39] != (api.Range{Lo: 1200000000000, Hi: 1200000000000}) || e != api.OK {
		t.Error(w, e)
	}
}

// somePlan is minutes of which many are small, and a denominator.
func somePlan(random *rand.Rand, count int) api.GrindPlan {
	p := api.GrindPlan{Den: 1 + random.IntN([]int{1, 9, 1000, 10000000}[random.IntN(4)])}
	for range count {
		p.Minutes = append(p.Minutes, random.IntN(min(1000000001, p.Den*[]int{1, 5, 100}[random.IntN(3)])))
	}
	return p
}

// around is a demand that a plan does not break, or not by much.
func around(random *rand.Rand, l []api.Stroke, p api.GrindPlan, slip int) api.GrindDemand {
	var d api.GrindDemand
	within := func(n int) int { return max(0, min(10000, n)) }
	for _, wear := range wearRat(l, p) {
		whole, _ := wear.Float64()
		low := within(int(whole) - random.IntN(4) + random.IntN(slip+1))
		high := within(int(whole) + 1 + random.IntN(4) - random.IntN(slip+1))
		d.Low, d.High = append(d.Low, low), append(d.High, max(low, high))
	}
	return d
}

func TestP4_4AgainstBig(t *testing.T) {
	random := rand.New(rand.NewPCG(4, 4))
	right, wrong := 0, [40]int{}
	for range 4000 {
		l := someStrokes(random, 1+random.IntN(12), 1+random.IntN([]int{3, 40}[random.IntN(2)]), []int{2, 100}[random.IntN(2)])
		p := somePlan(random, len(l))
		w, e := grind.WearBy(l, p)
		exact := wearRat(l, p)
		if len(w) != len(exact) || e != api.OK {
			t.Fatal(l, p, w, e)
		}
		for zone, x := range exact {
			down := new(big.Int).Div(x.Num(), x.Denom()).Int64()
			up := down
			if !x.IsInt() {
				up++
			}
			if w[zone] != (api.Range{Lo: int(down), Hi: int(up)}) {
				t.Fatal(l, p, zone, w[zone], x)
			}
		}
		d := around(random, l, p, random.IntN(3))
		n, e := grind.CheckPlan(l, d, p)
		zone := wrongZone(l, d, p)
		if zone >= 0 {
			if n != zone || e != api.ErrBreak {
				t.Fatal(l, d, p, n, e, zone)
			}
			wrong[zone]++
			continue
		}
		if right++; !isTimes(n, timeRat(p), p.Den) || e != api.OK {
			t.Fatal(l, d, p, n, e)
		}
	}
	if right < 300 || wrong[0] < 300 || wrong[1] < 100 || wrong[5] < 10 {
		t.Error("too few of a kind", right, wrong)
	}
}

func TestP4_4CheckPlan(t *testing.T) {
	l, d := chapterStrokes(), chapterDemand()
	nothing := asked([]int{0, 0, 0}, []int{0, 0, 0})
	for _, x := range []struct {
		d    api.GrindDemand
		p    api.GrindPlan
		n    int
		want api.Errno
	}{
		{d, plan(10, 13, 27), 40, api.OK},
		{d, plan(100, 130, 270), 400, api.OK}, // not in lowest terms
		{d, plan(10, 12, 27), 1, api.ErrBreak},
		{d, plan(1, 0, 6), 0, api.ErrBreak}, // 24 in zone 0
		{d, plan(1, 6, 1), 0, api.ErrBreak}, // 10 in zone 0
		{d, plan(1, 6, 2), 8, api.OK},
		{d, plan(1, 7, 2), 2, api.ErrBreak}, // 23 in zone 2
		{d, plan(1, 0, 4), 2, api.ErrBreak}, // 4 in zone 2
		{d, plan(1, 0, 5), 2, api.ErrBreak},
		{d, plan(10000000, 12999999, 27000000), 1, api.ErrBreak},
		{d, plan(10000000, 13000001, 27000000), 40000001, api.OK},
		{nothing, plan(1, 0, 0), 0, api.OK},
		{nothing, plan(10000000, 0, 1), 0, api.ErrBreak},
		{asked([]int{0, 0, 0}, []int{1, 0, 0}), plan(10000000, 1, 0), 1, api.ErrBreak},
		{asked([]int{0, 0, 0}, []int{1, 1, 0}), plan(10000000, 1, 0), 2, api.ErrBreak},
	} {
		if n, e := grind.CheckPlan(l, x.d, x.p); n != x.n || e != x.want {
			t.Error(x, n, e)
		}
	}
}

func TestP4_5Faults(t *testing.T) {
	faults := slices.Concat(someFaults(strokeFaults(1)), demandFaults(), weightFaults())
	checkFaults(t, validPolish, weightsError, faults)
	checkFaults(t, validPolish, proofError, append(faults, fault[polish]{func(x *polish) { x.w.Low[0] = 1 }, api.ErrProof}))
	refuses := func() polish {
		x := validPolish()
		x.d = asked([]int{12, 0, 12}, []int{20, 5, 20})
		x.w = weights(1, []int{2, 0, 2}, []int{0, 5, 0})
		return x
	}
	plainRefusal := func(t *testing.T, x polish) api.Errno {
		n, e := grind.CheckRefusal(x.l, x.d, x.w)
		none(t, e, n == 0)
		return e
	}
	checkFaults(t, refuses, plainRefusal, append(faults,
		fault[polish]{func(x *polish) { x.w.Den = 2 }, api.ErrForm},
		fault[polish]{func(x *polish) { x.w.Low[0] = 3 }, api.ErrProof},
	))
	// the errors of a plan come before those of weights
	checkFaults(t, validPolish, compareError, slices.Concat(
		someFaults(strokeFaults(1)), demandFaults(), planFaults(),
		[]fault[polish]{{func(x *polish) { x.p.Minutes[0] = 12 }, api.ErrBreak}},
		weightFaults(),
		[]fault[polish]{{func(x *polish) { x.w.Low[2] = 2 }, api.ErrProof}},
	))
	for _, x := range []struct {
		field       func(x *polish) *int
		least, most int
	}{
		{func(x *polish) *int { return &x.w.High[0] }, 0, 1000000000},
		{func(x *polish) *int { return &x.w.Den }, 2, 10000000},
		{func(x *polish) *int { return &x.w.Low[1] }, 0, 1},
	} {
		checkLimits(t, validPolish, weightsError, x.field, x.least, x.most)
	}
	most := validPolish()
	most.w = weights(10000000, []int{1000000000, 0, 0}, []int{1000000000, 0, 0})
	if e := weightsError(t, most); e != api.OK {
		t.Error(e)
	}
}

func TestP4_5Examples(t *testing.T) {
	l, d := chapterStrokes(), chapterDemand()
	never := asked([]int{12, 0, 12}, []int{20, 5, 20})
	zero := []int{0, 0, 0}
	for _, x := range []struct {
		d           api.GrindDemand
		w           api.GrindProof
		proof       int
		eProof      api.Errno
		refusal     int
		eNotRefused api.Errno
	}{
		{d, weights(2, []int{0, 1, 0}, zero), 8, api.OK, 0, api.ErrForm},
		{d, weights(1, []int{0, 1, 0}, zero), 0, api.ErrProof, 0, api.ErrProof},
		{d, weights(1, zero, zero), 0, api.OK, 0, api.ErrProof}, // 0 proves 0, and refuses nothing
		{d, weights(1, zero, []int{1, 0, 0}), -20, api.OK, 0, api.ErrProof},
		{d, weights(4, []int{1, 0, 0}, zero), 12, api.OK, 0, api.ErrForm},
		{d, weights(3, []int{1, 0, 0}, zero), 0, api.ErrProof, 0, api.ErrForm}, // 4/3 on short
		{d, weights(3, []int{0, 0, 1}, zero), 6, api.OK, 0, api.ErrForm},
		{d, weights(2, []int{0, 0, 1}, zero), 0, api.ErrProof, 0, api.ErrForm}, // 3/2 on long
		{never, weights(1, []int{1, 0, 1}, []int{0, 5, 0}), -1, api.OK, 0, api.ErrProof},
		{never, weights(1, []int{2, 0, 2}, []int{0, 5, 0}), 23, api.OK, 23, api.OK},
		{never, weights(2, []int{2, 0, 2}, []int{0, 5, 0}), 23, api.OK, 0, api.ErrForm},
		{never, weights(1, []int{3, 0, 2}, []int{0, 5, 0}), 0, api.ErrProof, 0, api.ErrProof}, // 14 + 1 - 10 on short
		{never, weights(3, []int{3, 0, 1}, []int{0, 5, 0}), 23, api.OK, 0, api.ErrForm},       // the pull 3/3 on short
		{asked(zero, zero), weights(1, zero, zero), 0, api.OK, 0, api.ErrProof},
		{asked(zero, zero), weights(1, zero, []int{1000000000, 1000000000, 1000000000}), 0, api.OK, 0, api.ErrProof},
		{asked([]int{1, 0, 0}, []int{1, 0, 0}), weights(1, []int{1, 0, 0}, []int{0, 2, 1}), 1, api.OK, 1, api.OK},
		{asked([]int{0, 0, 0}, []int{1, 0, 0}), weights(1, []int{1, 0, 0}, []int{0, 2, 1}), 0, api.OK, 0, api.ErrProof},
	} {
		if n, e := grind.CheckProof(l, x.d, x.w); n != x.proof || e != x.eProof {
			t.Error("proof", x, n, e)
		}
		if n, e := grind.CheckRefusal(l, x.d, x.w); n != x.refusal || e != x.eNotRefused {
			t.Error("refusal", x, n, e)
		}
	}
	most := slices.Repeat([]int{1000000000}, 40)
	all := asked(slices.Repeat([]int{10000}, 40), slices.Repeat([]int{10000}, 40))
	if n, e := grind.CheckRefusal([]api.Stroke{stroke("a", make([]int, 40)...)}, all, weights(1, most, make([]int, 40))); n != 400000000000000 || e != api.OK {
		t.Error(n, e)
	}
	if n, e := grind.CheckProof([]api.Stroke{stroke("a", slices.Repeat([]int{100}, 40)...)}, all, weights(1, make([]int, 40), most)); n != -400000000000000 || e != api.OK {
		t.Error(n, e)
	}
}

// someWeights are weights whose pull is often just allowed.
func someWeights(random *rand.Rand, zones int) api.GrindProof {
	w := api.GrindProof{Den: 1 + random.IntN([]int{1, 1, 1, 4, 1000, 10000000}[random.IntN(6)])}
	width := 1 + random.IntN([]int{2, 6, 6, 1000, 1000000000}[random.IntN(5)])
	for range zones {
		low, high := random.IntN(width), random.IntN(width)
		if random.IntN(3) == 0 {
			high = low
		}
		if random.IntN(3) == 0 {
			low = 0
		}
		if random.IntN(3) == 0 {
			high = 0
		}
		w.Low, w.High = append(w.Low, low), append(w.High, high)
	}
	return w
}

func TestP4_5AgainstBig(t *testing.T) {
	random := rand.New(rand.NewPCG(4, 5))
	proofs, refusals, compared := map[api.Errno]int{}, map[api.Errno]int{}, 0
	for range 20000 {
		zones := 1 + random.IntN([]int{3, 40}[random.IntN(2)])
		l := someStrokes(random, 1+random.IntN([]int{2, 12}[random.IntN(2)]), zones, []int{1, 3, 100}[random.IntN(3)])
		p := somePlan(random, len(l))
		d := someDemand(random, zones, []int{5, 10000}[random.IntN(2)])
		if random.IntN(2) == 0 {
			d = around(random, l, p, 0)
		}
		w := someWeights(random, zones)
		pull, bound := greatestPull(l, w), boundRat(d, w)
		n, e := grind.CheckProof(l, d, w)
		isProof := pull.Cmp(ratio(1, 1)) <= 0
		if isProof != (e == api.OK) || isProof && !isTimes(n, bound, w.Den) || !isProof && (n != 0 || e != api.ErrProof) {
			t.Fatal(l, d, w, n, e, pull, bound)
		}
		proofs[e]++
		want, m := api.OK, 0
		if w.Den != 1 {
			want = api.ErrForm
		} else if pull.Sign() > 0 || bound.Sign() <= 0 {
			want = api.ErrProof
		} else {
			m = int(bound.Num().Int64())
		}
		if n, e := grind.CheckRefusal(l, d, w); n != m || e != want {
			t.Fatal(l, d, w, n, e, pull, bound)
		}
		refusals[want]++
		if isRight := wrongZone(l, d, p) < 0; isRight && isProof {
			compared++
			n, e := grind.Compare(l, d, api.GrindAnswer{Plan: p, Weights: w})
			if n != timeRat(p).Cmp(bound) || n < 0 || e != api.OK {
				t.Fatal(l, d, p, w, n, e)
			}
			if want == api.OK {
				t.Fatal("a right plan is refused", l, d, p, w)
			}
		}
	}
	if proofs[api.OK] < 2000 || proofs[api.ErrProof] < 2000 || refusals[api.OK] < 100 || compared < 500 {
		t.Error("too few of a kind", proofs, refusals, compared)
	}
}

func TestP4_5Compare(t *testing.T) {
	l, d := chapterStrokes(), chapterDemand()
	half := weights(2, []int{0, 1, 0}, []int{0, 0, 0})
	for _, x := range []struct {
		p    api.GrindPlan
		w    api.GrindProof
		n    int
		want api.Errno
	}{
		{plan(10, 13, 27), half, 0, api.OK},
		{plan(10, 14, 27), half, 1, api.OK},
		{plan(10000000, 13000000, 27000001), half, 1, api.OK},
		{plan(10000000, 13000000, 27000000), weights(10000000, []int{0, 5000000, 0}, []int{0, 0, 0}), 0, api.OK},
		{plan(10000000, 13000000, 27000000), weights(10000000, []int{0, 4999999, 0}, []int{0, 0, 0}), 1, api.OK},
		{plan(10, 13, 27), weights(4, []int{1, 0, 0}, []int{0, 0, 0}), 1, api.OK},
		{plan(10, 13, 27), weights(1, []int{0, 0, 0}, []int{0, 0, 0}), 1, api.OK},
		{plan(10, 12, 27), half, 0, api.ErrBreak}, // without the number of the zone
		{plan(10, 13, 27), weights(1, []int{0, 1, 0}, []int{0, 0, 0}), 0, api.ErrProof},
		// bounds far below 0
		{plan(10000000, 13000000, 27000000), weights(1, []int{0, 0, 0}, []int{1000000000, 1000000000, 1000000000}), 1, api.OK},
		{plan(1, 2, 3), weights(1, []int{0, 0, 0}, []int{0, 0, 1}), 1, api.OK},
	} {
		if n, e := grind.Compare(l, d, api.GrindAnswer{Plan: x.p, Weights: x.w}); n != x.n || e != x.want {
			t.Error(x, n, e)
		}
	}
	// bounds so far below 0 that they would not fit into a word with the plan's denominator
	for zones := 1; zones <= 40; zones++ {
		l := []api.Stroke{stroke("a", slices.Repeat([]int{1}, zones)...)}
		d := asked(make([]int, zones), slices.Repeat([]int{10000 - zones}, zones))
		w := weights(1, make([]int, zones), slices.Repeat([]int{1000000000}, zones))
		for _, minutes := range []int{0, 1, 1000000000} {
			if n, e := grind.Compare(l, d, api.GrindAnswer{Plan: plan(10000000, minutes), Weights: w}); n != 1 || e != api.OK {
				t.Error(zones, minutes, n, e)
			}
		}
	}
	// without wear and time, 0 is compared with 0
	nothing := asked([]int{0, 0, 0}, []int{0, 0, 0})
	if n, e := grind.Compare(l, nothing, api.GrindAnswer{Plan: plan(7, 0, 0), Weights: half}); n != 0 || e != api.OK {
		t.Error(n, e)
	}
	if n, e := grind.Compare(l, nothing, api.GrindAnswer{Plan: plan(7, 0, 0), Weights: weights(1, []int{0, 0, 0}, []int{1000000000, 0, 0})}); n != 0 || e != api.OK {
		t.Error(n, e)
	}
}

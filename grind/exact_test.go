package grind_test

import (
	"math/big"
	"math/rand/v2"
	"slices"
	"testing"

	"speculum/api"
	"speculum/grind"
)

// isTame tells whether numbers are from 0 to 1000000000, and their denominator from 1 to 10000000.
func isTame(den int, numbers ...int) bool {
	return 1 <= den && den <= 10000000 && slices.Min(numbers) >= 0 && slices.Max(numbers) <= 1000000000
}

// checkExact checks the plan of a demand and the weights that prove it, or those that refuse, by the definitions alone.
// It returns the least time, or nil.
func checkExact(t *testing.T, l []api.Stroke, d api.GrindDemand) *big.Rat {
	t.Helper()
	x, e := grind.Plan(l, d)
	w := x.Weights
	if len(w.Low) != len(l[0].Wear) || len(w.High) != len(l[0].Wear) || !isTame(w.Den, slices.Concat(w.Low, w.High)...) {
		t.Fatal("no weights", l, d, x, e)
	}
	pull, bound := greatestPull(l, w), boundRat(d, w)
	if e == api.ErrNone {
		if x.Plan.Minutes != nil || x.Plan.Den != 0 || w.Den != 1 || pull.Sign() > 0 || bound.Sign() <= 0 {
			t.Fatal("no refusal", l, d, x, pull, bound)
		}
		if n, e := grind.CheckRefusal(l, d, w); !isTimes(n, bound, 1) || e != api.OK {
			t.Fatal(l, d, x, n, e)
		}
		return nil
	}
	if e != api.OK || len(x.Plan.Minutes) != len(l) || !isTame(x.Plan.Den, x.Plan.Minutes...) || wrongZone(l, d, x.Plan) >= 0 {
		t.Fatal("no right plan", l, d, x, e)
	}
	time := timeRat(x.Plan)
	if pull.Cmp(ratio(1, 1)) > 0 || bound.Cmp(time) != 0 {
		t.Fatal("no proof of the time", l, d, x, pull, bound, time)
	}
	if n, e := grind.CheckPlan(l, d, x.Plan); !isTimes(n, time, x.Plan.Den) || e != api.OK {
		t.Fatal(l, d, x, n, e)
	}
	if n, e := grind.CheckProof(l, d, w); !isTimes(n, bound, w.Den) || e != api.OK {
		t.Fatal(l, d, x, n, e)
	}
	if n, e := grind.Compare(l, d, x); n != 0 || e != api.OK {
		t.Fatal(l, d, x, n, e)
	}
	return time
}

func TestP4_6Examples(t *testing.T) {
	zero := []int{0, 0, 0}
	for _, x := range []struct {
		l    []api.Stroke
		d    api.GrindDemand
		want *big.Rat
	}{
		{chapterStrokes(), chapterDemand(), ratio(4, 1)},
		{chapterStrokes(), asked([]int{12, 0, 12}, []int{20, 5, 20}), nil},
		{chapterStrokes(), asked(zero, zero), ratio(0, 1)},
		{chapterStrokes(), asked(zero, []int{10000, 10000, 10000}), ratio(0, 1)},
		{chapterStrokes(), asked([]int{5, 0, 0}, []int{5, 10000, 10000}), ratio(5, 4)},
		{chapterStrokes(), asked([]int{5, 0, 0}, []int{5, 10000, 0}), nil}, // 0 to 0 allows no wear in the zone
		{chapterStrokes(), asked([]int{9, 8, 7}, []int{9, 8, 7}), nil},
		{chapterStrokes(), asked([]int{9, 6, 5}, []int{9, 6, 5}), ratio(3, 1)},
		{chapterStrokes(), asked([]int{5, 4, 4}, []int{5, 4, 4}), ratio(2, 1)},
		{[]api.Stroke{stroke("a", 0)}, asked([]int{0}, []int{0}), ratio(0, 1)},
		{[]api.Stroke{stroke("a", 0)}, asked([]int{0}, []int{10000}), ratio(0, 1)},
		{[]api.Stroke{stroke("a", 0)}, asked([]int{1}, []int{10000}), nil},
		{[]api.Stroke{stroke("a", 1)}, asked([]int{10000}, []int{10000}), ratio(10000, 1)},
		{[]api.Stroke{stroke("a", 7)}, asked([]int{10}, []int{11}), ratio(10, 7)},
		{[]api.Stroke{stroke("a", 7, 5)}, asked([]int{10, 9}, []int{11, 10}), nil},
		{[]api.Stroke{stroke("a", 7, 5)}, asked([]int{10, 9}, []int{13, 10}), ratio(9, 5)},
		{[]api.Stroke{stroke("a", 0), stroke("b", 0), stroke("c", 0)}, asked([]int{0}, []int{5}), ratio(0, 1)},
		{[]api.Stroke{stroke("a", 0), stroke("b", 100), stroke("c", 0)}, asked([]int{5}, []int{5}), ratio(1, 20)},
		{[]api.Stroke{stroke("a", 2, 1), stroke("b", 2, 1), stroke("c", 4, 2)}, asked([]int{10, 5}, []int{10, 5}), ratio(5, 2)},
		{[]api.Stroke{stroke("a", 1, 1, 0), stroke("b", 0, 1, 1), stroke("c", 1, 0, 1)}, asked([]int{1, 1, 1}, []int{1, 1, 1}), ratio(3, 2)},
		{[]api.Stroke{stroke("a", 1, 0, 0, 1), stroke("b", 0, 1, 0, 1), stroke("c", 0, 0, 1, 1)}, asked([]int{3, 3, 3, 0}, []int{9, 9, 9, 8}), nil},
		{[]api.Stroke{stroke("a", 1, 0, 0, 1), stroke("b", 0, 1, 0, 1), stroke("c", 0, 0, 1, 1)}, asked([]int{3, 3, 3, 0}, []int{9, 9, 9, 9}), ratio(9, 1)},
		{[]api.Stroke{stroke("a", 0, 100, 100), stroke("b", 100, 0, 100), stroke("c", 100, 100, 0)}, asked([]int{9999, 10000, 9999}, []int{9999, 10000, 9999}), ratio(29998, 200)},
	} {
		got := checkExact(t, x.l, x.d)
		if (got == nil) != (x.want == nil) || got != nil && got.Cmp(x.want) != 0 {
			t.Error(x.l, x.d, got, x.want)
		}
	}
}

func TestP4_6Faults(t *testing.T) {
	isPlanned := func(t *testing.T, x polish) api.Errno {
		answer, e := grind.Plan(x.l, x.d)
		none(t, e, answer.Plan.Minutes == nil && answer.Plan.Den == 0 && answer.Weights.Low == nil && answer.Weights.High == nil && answer.Weights.Den == 0)
		return e
	}
	checkFaults(t, validPolish, isPlanned, slices.Concat(
		allStrokeFaults()[:2], someFaults(strokeFaults(0)), someFaults(strokeFaults(1)), demandFaults(),
		[]fault[polish]{{func(x *polish) { x.l = append(x.l[:3:3], stroke("more", 1, 1, 1)) }, api.ErrLarge}},
	))
	for _, x := range []struct {
		strokes, zones int
		want           api.Errno
	}{
		{3, 8, api.OK}, {1, 8, api.OK}, {3, 1, api.OK}, {4, 8, api.ErrLarge}, {3, 9, api.ErrLarge}, {12, 40, api.ErrLarge}, {13, 8, api.ErrLarge}, {3, 41, api.ErrShape},
	} {
		d := asked(make([]int, x.zones), make([]int, x.zones))
		answer, e := grind.Plan(manyStrokes(x.strokes, x.zones), d)
		if e != x.want {
			t.Error(x, e)
		}
		none(t, e, answer.Plan.Minutes == nil && answer.Plan.Den == 0 && answer.Weights.Low == nil && answer.Weights.High == nil && answer.Weights.Den == 0)
	}
	// what is asked for is checked first, also if there is too much of it
	if _, e := grind.Plan(manyStrokes(4, 9), asked(make([]int, 9), make([]int, 8))); e != api.ErrShape {
		t.Error(e)
	}
}

// TestP4_6AllSmall goes through all demands up to 2 on all pairs of strokes of two zones with a wear up to 2.
func TestP4_6AllSmall(t *testing.T) {
	ranges := [][2]int{{0, 0}, {0, 1}, {0, 2}, {1, 1}, {1, 2}, {2, 2}}
	plans, refusals := 0, 0
	for n := range 81 {
		l := []api.Stroke{stroke("a", n%3, n/3%3), stroke("b", n/9%3, n/27)}
		for _, a := range ranges {
			for _, b := range ranges {
				if checkExact(t, l, asked([]int{a[0], b[0]}, []int{a[1], b[1]})) != nil {
					plans++
				} else {
					refusals++
				}
			}
		}
	}
	if plans < 1000 || refusals < 500 {
		t.Error("too few of a kind", plans, refusals)
	}
}

// someTask is few strokes and zones, and a demand that is often just possible, or just not.
func someTask(random *rand.Rand) ([]api.Stroke, api.GrindDemand) {
	zones := 1 + random.IntN(8)
	l := someStrokes(random, 1+random.IntN(3), zones, []int{1, 2, 5, 30, 100}[random.IntN(5)])
	if random.IntN(3) == 0 { // as much as possible, or nothing
		for i := range l {
			for zone := range zones {
				l[i].Wear[zone] = 100 * random.IntN(2)
			}
		}
	}
	if random.IntN(5) == 0 { // strokes that depend on one another
		copy(l[len(l)-1].Wear, l[0].Wear)
	}
	if random.IntN(4) == 0 {
		return l, someDemand(random, zones, []int{3, 100, 10000}[random.IntN(3)])
	}
	p := somePlan(random, len(l))
	d := around(random, l, p, []int{0, 0, 1, 3}[random.IntN(4)])
	if random.IntN(2) == 0 {
		for zone := range zones {
			switch random.IntN(3) {
			case 0:
				d.Low[zone] = d.High[zone]
			case 1:
				d.High[zone] = d.Low[zone]
			}
		}
	}
	return l, d
}

func TestP4_6AgainstBig(t *testing.T) {
	random := rand.New(rand.NewPCG(4, 6))
	plans, refusals, mostDen := 0, 0, 0
	for range 20000 {
		l, d := someTask(random)
		if checkExact(t, l, d) != nil {
			plans++
		} else {
			refusals++
		}
		x, _ := grind.Plan(l, d)
		mostDen = max(mostDen, x.Plan.Den, x.Weights.Den)
	}
	if plans < 4000 || refusals < 4000 || mostDen < 100000 {
		t.Error("too few of a kind", plans, refusals, mostDen)
	}
}

func TestP4_10LeastTime(t *testing.T) {
	random := rand.New(rand.NewPCG(4, 10))
	accepted, refused, wider := 0, 0, 0
	for range 4000 {
		l, d := someTask(random)
		least := checkExact(t, l, d)
		x, _ := grind.Plan(l, d)
		for range 40 { // plans near the best one, or anywhere
			p := somePlan(random, len(l))
			if least != nil && random.IntN(4) > 0 {
				p = x.Plan
				p.Minutes = slices.Clone(p.Minutes)
				i := random.IntN(len(l))
				p.Minutes[i] = max(0, p.Minutes[i]+random.IntN(5)-2)
			}
			n, e := grind.CheckPlan(l, d, p)
			if e == api.ErrBreak {
				continue
			}
			if least == nil {
				t.Fatal("a right plan is refused", l, d, p)
			}
			accepted++
			c, f := grind.Compare(l, d, api.GrindAnswer{Plan: p, Weights: x.Weights})
			if ratio(n, p.Den).Cmp(least) < 0 || c != ratio(n, p.Den).Cmp(least) || e != api.OK || f != api.OK {
				t.Fatal("less than the least time", l, d, p, n, e, c, f)
			}
		}
		if least == nil {
			refused++
		}
		wide := asked(slices.Clone(d.Low), slices.Clone(d.High))
		for zone := range d.Low {
			wide.Low[zone] = max(0, wide.Low[zone]-random.IntN(3))
			wide.High[zone] = min(10000, wide.High[zone]+random.IntN(3))
		}
		time := checkExact(t, l, wide)
		if least != nil && (time == nil || time.Cmp(least) > 0) {
			t.Fatal("a wider demand has more time", l, d, least, wide, time)
		}
		if least != nil && time.Cmp(least) < 0 {
			wider++
		}
	}
	if accepted < 10000 || refused < 500 || wider < 500 {
		t.Error("too few of a kind", accepted, refused, wider)
	}
}

// TestP4_10ByTrial tries all plans of whole and half minutes of small tasks: none is right with less time, and none is
// right where weights refuse.
func TestP4_10ByTrial(t *testing.T) {
	random := rand.New(rand.NewPCG(10, 4))
	right, refused := 0, 0
	for range 1500 {
		zones := 1 + random.IntN(4)
		l := someStrokes(random, 3, zones, 3)
		d := someDemand(random, zones, 7)
		least := checkExact(t, l, d)
		if least == nil {
			refused++
		}
		for n := range 12 * 12 * 12 {
			p := plan(2, n%12, n/12%12, n/144)
			time, e := grind.CheckPlan(l, d, p)
			if e == api.OK && (least == nil || ratio(time, 2).Cmp(least) < 0) {
				t.Fatal(l, d, p, least)
			}
			if e == api.OK {
				right++
			}
		}
	}
	if right < 10000 || refused < 200 {
		t.Error("too few of a kind", right, refused)
	}
}

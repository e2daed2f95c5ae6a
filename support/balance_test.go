package support_test

import (
	"math/big"
	"math/rand/v2"
	"slices"
	"testing"

	"speculum/api"
	"speculum/support"
)

// mounting is the arguments of Moments and Counterweight, of which valid ones are accepted.
type mounting struct {
	l         []api.AxisLoad
	axis, arm int
}

func axisLoad(weight, armX, armY int) api.AxisLoad {
	return api.AxisLoad{Weight: weight, ArmX: armX, ArmY: armY}
}

func validMounting() mounting {
	return mounting{[]api.AxisLoad{axisLoad(10, 6, -1), axisLoad(3, -2, 5)}, 0, -4}
}

func counterError(t *testing.T, x mounting) api.Errno {
	t.Helper()
	w, e := support.Counterweight(x.l, x.axis, x.arm)
	none(t, e, w == api.Frac{})
	return e
}

func momentsError(t *testing.T, x mounting) api.Errno {
	t.Helper()
	sums, e := support.Moments(x.l)
	none(t, e, sums == [2]int{})
	return agree(t, e, counterError(t, x))
}

// loadFaults are the faults of two loads.
func loadFaults() []fault[mounting] {
	faults := []fault[mounting]{
		{func(x *mounting) { x.l = make([]api.AxisLoad, 61) }, api.ErrLarge},
		{func(x *mounting) { x.l = slices.Repeat([]api.AxisLoad{axisLoad(-1, 0, 0)}, 61) }, api.ErrLarge},
	}
	for i := range 2 {
		faults = append(faults, numberFaults(func(x *mounting) *int { return &x.l[i].Weight }, 0, 10000000, api.ErrRange)...)
		faults = append(faults, numberFaults(func(x *mounting) *int { return &x.l[i].ArmX }, -10000000, 10000000, api.ErrRange)...)
		faults = append(faults, numberFaults(func(x *mounting) *int { return &x.l[i].ArmY }, -10000000, 10000000, api.ErrRange)...)
	}
	return faults
}

func TestP7_5MomentFaults(t *testing.T) {
	checkFaults(t, validMounting, momentsError, loadFaults())
	idle := func() mounting { return mounting{[]api.AxisLoad{{}, {}}, 0, -1} }
	for i := range 2 {
		checkLimits(t, idle, momentsError, func(x *mounting) *int { return &x.l[i].Weight }, 0, 10000000)
		checkLimits(t, idle, momentsError, func(x *mounting) *int { return &x.l[i].ArmX }, -10000000, 10000000)
		checkLimits(t, idle, momentsError, func(x *mounting) *int { return &x.l[i].ArmY }, -10000000, 10000000)
	}
}

func TestP7_5Moments(t *testing.T) {
	most := axisLoad(10000000, 10000000, -10000000)
	for _, c := range []struct {
		l    []api.AxisLoad
		want [2]int
	}{
		{nil, [2]int{}},
		{[]api.AxisLoad{axisLoad(10, 6, -1)}, [2]int{60, -10}},
		{validMounting().l, [2]int{54, 5}},
		{[]api.AxisLoad{axisLoad(0, 6, -1), axisLoad(7, 0, 0)}, [2]int{0, 0}},
		{slices.Repeat([]api.AxisLoad{most}, 60), [2]int{6000000000000000, -6000000000000000}},
	} {
		if sums, e := support.Moments(c.l); sums != c.want || e != api.OK {
			t.Error(c, sums, e)
		}
	}
}

func TestP7_5CounterFaults(t *testing.T) {
	faults := loadFaults()
	faults = append(faults, numberFaults(func(x *mounting) *int { return &x.axis }, 0, 1, api.ErrRange)...)
	faults = append(faults, numberFaults(func(x *mounting) *int { return &x.arm }, -10000000, 10000000, api.ErrRange)...)
	faults = append(faults,
		fault[mounting]{func(x *mounting) { x.arm = 0 }, api.ErrZero},
		fault[mounting]{func(x *mounting) { x.axis, x.arm = 1, 0 }, api.ErrZero},
		fault[mounting]{func(x *mounting) { x.arm = 4 }, api.ErrNone},
		fault[mounting]{func(x *mounting) { x.l[0].Weight, x.l[1].Weight, x.arm = 10000000, 9999999, 10000000 }, api.ErrNone},
		fault[mounting]{func(x *mounting) { x.l[0], x.axis, x.arm = axisLoad(10000000, 10000000, 1), 0, -1 }, api.ErrLarge},
		fault[mounting]{func(x *mounting) { x.l[0], x.axis, x.arm = axisLoad(10000000, 0, 9999999), 1, -9999998 }, api.ErrLarge},
	)
	checkFaults(t, validMounting, counterError, faults)
}

func TestP7_5Counterweights(t *testing.T) {
	single := []api.AxisLoad{axisLoad(10, 6, -1)}
	most := slices.Repeat([]api.AxisLoad{axisLoad(10000000, 10000000, -10000000)}, 60)
	for _, c := range []struct {
		x    mounting
		want api.Frac
		e    api.Errno
	}{
		{mounting{single, 0, -4}, frac(15, 1), api.OK},
		{mounting{single, 0, -7}, frac(60, 7), api.OK},
		{mounting{single, 0, -8}, frac(15, 2), api.OK},
		{mounting{single, 0, 4}, api.Frac{}, api.ErrNone},
		{mounting{single, 1, 4}, frac(5, 2), api.OK},
		{mounting{single, 1, -4}, api.Frac{}, api.ErrNone},
		{mounting{nil, 0, 7}, frac(0, 1), api.OK},
		{mounting{nil, 1, -10000000}, frac(0, 1), api.OK},
		{mounting{nil, 1, 0}, api.Frac{}, api.ErrZero},
		{mounting{[]api.AxisLoad{axisLoad(5, 4, 0), axisLoad(4, -5, 0)}, 0, 3}, frac(0, 1), api.OK},
		{mounting{most, 0, -10000000}, frac(600000000, 1), api.OK},
		{mounting{most, 1, 10000000}, frac(600000000, 1), api.OK},
		{mounting{most, 1, 6000000}, frac(1000000000, 1), api.OK},
		{mounting{most, 1, 5999999}, api.Frac{}, api.ErrLarge},
		{mounting{most, 1, -1}, api.Frac{}, api.ErrNone},
		{mounting{most, 0, 1}, api.Frac{}, api.ErrNone},
		{mounting{most[:1], 0, -100000}, frac(1000000000, 1), api.OK},
	} {
		if w, e := support.Counterweight(c.x.l, c.x.axis, c.x.arm); w != c.want || e != c.e {
			t.Error(c, w, e)
		}
	}
}

// someMounting is loads of any size, an axis and an arm other than 0.
func someMounting(random *rand.Rand) mounting {
	most := []int{3, 100, 10000000}[random.IntN(3)]
	around := func() int { return random.IntN(2*most+1) - most }
	x := mounting{axis: random.IntN(2), arm: around()}
	for range random.IntN(5) {
		x.l = append(x.l, axisLoad(random.IntN(most+1), around(), around()))
	}
	if x.arm == 0 {
		x.arm = -most
	}
	return x
}

// TestP7_12Counterweights checks that the moment with the counterweight is 0, and that there is none otherwise.
func TestP7_12Counterweights(t *testing.T) {
	random := rand.New(rand.NewPCG(7, 14))
	counts := map[api.Errno]int{}
	for range 20000 {
		x := someMounting(random)
		moment := new(big.Int)
		for _, l := range x.l {
			moment.Add(moment, new(big.Int).Mul(big.NewInt(int64(l.Weight)), big.NewInt(int64([2]int{l.ArmX, l.ArmY}[x.axis]))))
		}
		sums, e := support.Moments(x.l)
		if e != api.OK || moment.Cmp(big.NewInt(int64(sums[x.axis]))) != 0 {
			t.Fatal(x, sums, moment, e)
		}
		weight := new(big.Rat).SetFrac(moment.Neg(moment), big.NewInt(int64(x.arm)))
		want := api.OK
		switch {
		case weight.Sign() < 0:
			want = api.ErrNone
		case !isSmall(weight):
			want = api.ErrLarge
		}
		w, e := support.Counterweight(x.l, x.axis, x.arm)
		if e != want || e == api.OK && !isRat(w, weight) {
			t.Fatal(x, w, weight, e, want)
		}
		counts[e]++
		if e == api.OK && w.Den == 1 && w.Num <= 10000000 {
			sums, e := support.Moments(append(x.l, axisLoad(w.Num, x.arm, x.arm)))
			if sums[x.axis] != 0 || e != api.OK {
				t.Fatal(x, w, sums, e)
			}
		}
	}
	for _, e := range []api.Errno{api.OK, api.ErrNone, api.ErrLarge} {
		if counts[e] < 1000 {
			t.Error("too few of a kind", e, counts)
		}
	}
}

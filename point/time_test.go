package point_test

import (
	"math/rand/v2"
	"slices"
	"testing"

	"speculum/api"
	"speculum/point"
)

func TestP9_7Faults(t *testing.T) {
	faults := append(tourFaults(), numberFaults(func(x *journey) *int { return &x.at[2] }, 0, 10000000, api.ErrRange)...)
	faults = append(faults, choiceFaults()...)
	faults = append(faults,
		fault[journey]{func(x *journey) { x.at[2] = 10000000 }, api.ErrLate},
		fault[journey]{func(x *journey) { x.l[0].To = 20 }, api.ErrLate},
		fault[journey]{func(x *journey) { x.l[1].To = 32 }, api.ErrLate},
		fault[journey]{func(x *journey) { x.l[2].To = 43 }, api.ErrLate},
		fault[journey]{func(x *journey) { x.l[2].Dwell = 962 }, api.ErrLate},
		fault[journey]{func(x *journey) { x.m.Speed = 1 }, api.ErrLate},
	)
	checkFaults(t, validJourney, timesError, faults)
	checkLimits(t, validJourney, timesError, func(x *journey) *int { return &x.at[2] }, 0, 966)
	for n, most := range []int{21, 33, 44} {
		checkLimits(t, validJourney, timesError, func(x *journey) *int { return &x.l[n].To }, most, most)
	}
	x := validJourney()
	for n := range x.l {
		x.l[n].To = 10000000
	}
	x.at[2] = 9999966
	if e := timesError(t, x); e != api.OK {
		t.Error(e)
	}
	x.l = nil
	x.turns = nil
	x.at[2] = 10000000
	if e := timesError(t, x); e != api.OK {
		t.Error(e)
	}
}

func TestP9_7Times(t *testing.T) {
	for _, x := range []struct {
		change func(x *journey)
		want   []int
		late   int
		e      api.Errno
	}{
		{func(x *journey) {}, []int{16, 28, 39}, 0, api.OK},
		{func(x *journey) { x.l[2].To = 44 }, []int{16, 28, 39}, 0, api.OK},
		{func(x *journey) { x.l[2].To = 43 }, nil, 2, api.ErrLate},
		{func(x *journey) { x.l[1].To, x.l[2].To = 32, 43 }, nil, 1, api.ErrLate},
		{func(x *journey) { x.l[0].To, x.l[2].To = 20, 43 }, nil, 0, api.ErrLate},
		{func(x *journey) { x.l[1].From = 50 }, []int{16, 50, 61}, 0, api.OK},
		{func(x *journey) { x.l[0].From, x.l[1].From, x.l[2].From = 15, 28, 40 }, []int{16, 28, 40}, 0, api.OK},
		{func(x *journey) { x.l[0].From = 17 }, []int{17, 29, 40}, 0, api.OK},
		{func(x *journey) { x.l[0].From, x.l[0].To = 995, 1000 }, nil, 1, api.ErrLate},
		{func(x *journey) { x.l[0].From, x.l[0].To = 996, 1000 }, nil, 0, api.ErrLate},
		{func(x *journey) { x.l[2].From, x.l[2].To = 995, 1000 }, []int{16, 28, 995}, 0, api.OK},
		{func(x *journey) { x.l[2].From, x.l[2].To = 996, 1000 }, nil, 2, api.ErrLate},
		{func(x *journey) { x.l[0].Dwell = 6 }, []int{16, 29, 40}, 0, api.OK},
		{func(x *journey) { x.m.Speed = 600000 }, []int{11, 18, 24}, 0, api.OK},
		{func(x *journey) { x.m.Speed = 599999 }, []int{12, 19, 25}, 0, api.OK},
		{func(x *journey) { x.m.Speed = 1000000 }, []int{11, 17, 23}, 0, api.OK},
		{func(x *journey) { x.at[1] = 600000 }, []int{10, 22, 33}, 0, api.OK},
		{func(x *journey) { x.at[1] = 600001 }, []int{11, 23, 34}, 0, api.OK},
		{func(x *journey) { x.at[1] = 1300000 }, []int{17, 29, 40}, 0, api.OK},
		{func(x *journey) { x.at[2] = 0 }, []int{6, 18, 29}, 0, api.OK},
		{func(x *journey) { x.turns = []int{-1, -1, 0} }, []int{17, 28, 39}, 0, api.OK},
		{func(x *journey) { x.turns = []int{0, 0, 0} }, []int{16, 27, 39}, 0, api.OK},
		{func(x *journey) { x.l, x.turns = nil, nil }, nil, 0, api.OK},
	} {
		y := chapterJourney()
		x.change(&y)
		if times, n, e := point.Times(y.m, y.l, y.at, y.turns); !slices.Equal(times, x.want) || n != x.late || e != x.e {
			t.Error(y, times, n, e, x.want)
		}
	}
	// the slowest mounting, with the longest way
	m := flatMount(-25920000, 25920000, 1)
	l := []api.SkyTarget{target("a", 0, 0, 0, 10000000, 1)}
	if times, n, e := point.Times(m, l, [3]int{0, -25920000, 0}, []int{20}); times != nil || n != 0 || e != api.ErrLate {
		t.Error(times, n, e)
	}
	m.Speed = 6
	if times, n, e := point.Times(m, l, [3]int{0, -25920000, 0}, []int{20}); !slices.Equal(times, []int{8640000}) || n != 0 || e != api.OK {
		t.Error(times, n, e)
	}
}

// timesBy goes through a choice minute by minute; it returns the number of the first target that is late, or -1.
func timesBy(x journey) ([]int, int) {
	var times []int
	from, minute := x.at[1], x.at[2]
	for n, t := range x.l {
		to := apparentBy(x.m, t, x.at[0])[0] + x.turns[n]*1296000
		for left := max(to-from, from-to); left > 0; left -= x.m.Speed {
			minute++
		}
		for minute < t.From {
			minute++
		}
		times = append(times, minute)
		for range t.Dwell {
			if minute >= t.To {
				return nil, n
			}
			minute++
		}
		from = to
	}
	return times, -1
}

// swift is a tour with a choice, by a mounting that is not slow.
func swift(random *rand.Rand) journey {
	x := someJourney(random, random.IntN(21))
	x.m.Speed = 20000 + random.IntN(980001)
	for n := range x.l { // later targets are seen later
		x.l[n].From += n * 50
		x.l[n].To += n * 50
	}
	x.turns = someChoice(random, x)
	return x
}

func TestP9_7TimesByTrial(t *testing.T) {
	random := rand.New(rand.NewPCG(9, 7))
	counts := map[api.Errno]int{}
	for range 5000 {
		x := swift(random)
		times, n, e := point.Times(x.m, x.l, x.at, x.turns)
		want, late := timesBy(x)
		if late >= 0 && (times != nil || n != late || e != api.ErrLate) || late < 0 && (!slices.Equal(times, want) || n != 0 || e != api.OK) {
			t.Fatal(x, times, n, e, want, late)
		}
		counts[e]++
	}
	if counts[api.OK] < 1000 || counts[api.ErrLate] < 1000 {
		t.Error("too few of a kind", counts)
	}
}

func TestP9_12Times(t *testing.T) {
	random := rand.New(rand.NewPCG(9, 12))
	right, late := 0, 0
	for range 5000 {
		x := swift(random)
		times, n, e := point.Times(x.m, x.l, x.at, x.turns)
		for i, minute := range times {
			if minute < x.at[2] || i > 0 && minute < times[i-1] {
				t.Fatal("times fall", x, times)
			}
		}
		later := x
		later.at[2] += random.IntN(500)
		others, n2, e2 := point.Times(later.m, later.l, later.at, later.turns)
		switch {
		case e == api.OK && e2 == api.OK:
			right++
			for i, minute := range others {
				if minute < times[i] {
					t.Fatal("earlier", x, times, others)
				}
			}
		case e == api.ErrLate && (e2 != api.ErrLate || n2 > n):
			t.Fatal("no longer late", x, n, n2, e2)
		case e2 == api.ErrLate:
			late++
		}
	}
	if right < 1000 || late < 300 {
		t.Error("too few of a kind", right, late)
	}
}

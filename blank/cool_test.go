package blank_test

import (
	"math"
	"math/rand/v2"
	"slices"
	"testing"

	"speculum/api"
	"speculum/blank"
)

func window(level, from, to int) api.CoolWindow {
	return api.CoolWindow{Level: level, From: from, To: to}
}

// cooling is the annealing of the chapter's fourth example.
func cooling(windows ...api.CoolWindow) api.Annealing {
	return api.Annealing{Thick: 30, Factor: 10, Windows: windows,
		Steps: []api.CoolStep{{Drop: 100, Limit: 5000, Most: 400}, {Drop: 50, Limit: 9000, Most: 100}}}
}

// demand is an annealing with arguments of all functions, of which valid ones are accepted.
type demand struct {
	a             api.Annealing
	step, minutes int
	times, circle []int
}

func validDemand() demand {
	a := cooling(window(1, 180, 200), window(2, 0, 230), window(0, 0, 5))
	return demand{a: a, step: 1, minutes: 7, times: []int{0, 180, 230}, circle: []int{3, 4}}
}

// demandError is the error of all functions of an annealing, whose other arguments are valid.
func demandError(t *testing.T, x demand) api.Errno {
	t.Helper()
	bounds, e1 := blank.CoolSystem(x.a)
	times, circle, e2 := blank.Earliest(x.a)
	none(t, e1, bounds == nil && times == nil && circle == nil)
	n, e3 := blank.CheckCircle(x.a, x.circle)
	if e3 == api.ErrProof { // the circle of the valid demand proves nothing
		e3 = api.OK
	}
	none(t, e1, n == 0)
	return agree(t, blank.CheckAnnealing(x.a), e1, e2, e3, stressError(t, x), timesError(t, x))
}

func stepError(t *testing.T, x demand) api.Errno {
	t.Helper()
	n, e := blank.LeastMinutes(x.a, x.step)
	none(t, e, n == 0)
	return e
}

func stressError(t *testing.T, x demand) api.Errno {
	t.Helper()
	r, e := blank.StressOf(x.a, x.step, x.minutes)
	none(t, e, r == api.Range{})
	if e != api.ErrRange {
		agree(t, e, stepError(t, x))
	}
	return e
}

func timesError(t *testing.T, x demand) api.Errno {
	t.Helper()
	_, e := blank.CheckTimes(x.a, x.times)
	n, r, e2 := blank.Worst(x.a, x.times)
	none(t, e, n == 0 && r == api.Range{})
	return agree(t, e, e2)
}

func stepFaults(i int) []fault[demand] {
	return slices.Concat(
		numberFaults(func(x *demand) *int { return &x.a.Steps[i].Drop }, 1, 1000, api.ErrRange),
		numberFaults(func(x *demand) *int { return &x.a.Steps[i].Limit }, 1, 1000000000, api.ErrRange),
		numberFaults(func(x *demand) *int { return &x.a.Steps[i].Most }, 1, 100000, api.ErrRange),
	)
}

func windowFaults(i int) []fault[demand] {
	return slices.Concat(
		numberFaults(func(x *demand) *int { return &x.a.Windows[i].Level }, 0, 2, api.ErrMissing),
		numberFaults(func(x *demand) *int { return &x.a.Windows[i].From }, 0, 1000000, api.ErrRange),
		numberFaults(func(x *demand) *int { return &x.a.Windows[i].To }, 0, 1000000, api.ErrRange),
		[]fault[demand]{{func(x *demand) { x.a.Windows[i].From, x.a.Windows[i].To = 7, 6 }, api.ErrOrder}},
	)
}

func annealingFaults() []fault[demand] {
	manySteps := func(x *demand) { x.a.Steps = slices.Grow(x.a.Steps, 31)[:31] }
	manyWindows := func(x *demand) { x.a.Windows = slices.Grow(x.a.Windows, 61)[:61] }
	return slices.Concat(
		numberFaults(func(x *demand) *int { return &x.a.Thick }, 1, 500, api.ErrRange),
		numberFaults(func(x *demand) *int { return &x.a.Factor }, 0, 1000, api.ErrRange),
		[]fault[demand]{{manySteps, api.ErrShape}},
		stepFaults(0), stepFaults(1),
		[]fault[demand]{{manyWindows, api.ErrLarge}},
		windowFaults(0), windowFaults(2),
	)
}

func TestP3_4Faults(t *testing.T) {
	checkFaults(t, validDemand, demandError, annealingFaults())
	for _, a := range []api.Annealing{{Thick: 1}, {Thick: 1, Windows: make([]api.CoolWindow, 61)}} {
		x := validDemand()
		x.a = a
		if e := demandError(t, x); e != api.ErrShape {
			t.Error(e)
		}
		x.a.Thick = 0
		if e := demandError(t, x); e != api.ErrRange {
			t.Error(e)
		}
	}
}

func TestP3_4Limits(t *testing.T) {
	isValid := func(t *testing.T, x demand) api.Errno { return blank.CheckAnnealing(x.a) }
	for _, x := range []struct {
		field       func(x *demand) *int
		least, most int
	}{
		{func(x *demand) *int { return &x.a.Thick }, 1, 500},
		{func(x *demand) *int { return &x.a.Factor }, 0, 1000},
		{func(x *demand) *int { return &x.a.Steps[1].Drop }, 1, 1000},
		{func(x *demand) *int { return &x.a.Steps[1].Limit }, 1, 1000000000},
		{func(x *demand) *int { return &x.a.Steps[1].Most }, 1, 100000},
		{func(x *demand) *int { return &x.a.Windows[0].Level }, 0, 2},
		{func(x *demand) *int { return &x.a.Windows[0].From }, 0, 200},
		{func(x *demand) *int { return &x.a.Windows[0].To }, 180, 1000000},
	} {
		checkLimits(t, validDemand, isValid, x.field, x.least, x.most)
	}
	greatest := api.Annealing{Thick: 500, Factor: 1000, Windows: make([]api.CoolWindow, 60)}
	for i := range greatest.Windows {
		greatest.Windows[i] = window(i%31, 1000000, 1000000)
	}
	for range 30 {
		greatest.Steps = append(greatest.Steps, api.CoolStep{Drop: 1000, Limit: 1, Most: 100000})
	}
	if e := blank.CheckAnnealing(greatest); e != api.OK {
		t.Error(e)
	}
	if n, e := blank.LeastMinutes(greatest, 29); n != 250000000000 || e != api.OK {
		t.Error(n, e)
	}
	if r, e := blank.StressOf(greatest, 0, 1); r != span(250000000000, 250000000000) || e != api.OK {
		t.Error(r, e)
	}
	checkEarliest(t, greatest)
}

func TestP3_4Arguments(t *testing.T) {
	checkFaults(t, validDemand, stepError, slices.Concat(
		stepFaults(1),
		numberFaults(func(x *demand) *int { return &x.step }, 0, 1, api.ErrMissing),
	))
	checkFaults(t, validDemand, stressError, slices.Concat(
		windowFaults(2),
		numberFaults(func(x *demand) *int { return &x.step }, 0, 1, api.ErrMissing),
		numberFaults(func(x *demand) *int { return &x.minutes }, 1, 10000000, api.ErrRange),
	))
	checkLimits(t, validDemand, stressError, func(x *demand) *int { return &x.minutes }, 1, 10000000)
}

func TestP3_4Examples(t *testing.T) {
	for _, x := range []struct{ step, minutes, least, lo, hi int }{
		{0, 181, 180, 4972, 4973}, {0, 180, 180, 5000, 5000}, {0, 1, 180, 900000, 900000},
		{1, 49, 50, 9183, 9184}, {1, 10000000, 50, 0, 1}, {0, 900000, 180, 1, 1}, {0, 900001, 180, 0, 1},
	} {
		if r, e := blank.StressOf(cooling(), x.step, x.minutes); r != span(x.lo, x.hi) || e != api.OK {
			t.Error(x, r, e)
		}
		if n, e := blank.LeastMinutes(cooling(), x.step); n != x.least || e != api.OK {
			t.Error(x, n, e)
		}
	}
	calm := cooling()
	calm.Factor = 0
	if n, e := blank.LeastMinutes(calm, 0); n != 1 || e != api.OK {
		t.Error(n, e)
	}
	if r, e := blank.StressOf(calm, 0, 1); r != span(0, 0) || e != api.OK {
		t.Error(r, e)
	}
	mild := cooling()
	mild.Steps[0].Limit = 1000000000
	if n, e := blank.LeastMinutes(mild, 0); n != 1 || e != api.OK {
		t.Error(n, e)
	}
}

// leastOf is the least minutes of a step, found by trial.
func leastOf(a api.Annealing, step int) int {
	stress, limit := a.Factor*a.Thick*a.Thick*a.Steps[step].Drop, a.Steps[step].Limit
	tooFew, enough := 0, 250000000000/limit+1
	for enough-tooFew > 1 {
		if minutes := (tooFew + enough) / 2; stress <= limit*minutes {
			enough = minutes
		} else {
			tooFew = minutes
		}
	}
	return enough
}

// someAnnealing has minutes that are often possible, and windows near a schedule that is. Of each kind of fault there is
// one now and then.
func someAnnealing(random *rand.Rand, maxSteps, maxWindows int) api.Annealing {
	a := api.Annealing{Thick: 1 + random.IntN(500), Factor: random.IntN(1001)}
	width := []int{3, 100, 20000}[random.IntN(3)]
	times := []int{0}
	for i := range 1 + random.IntN(maxSteps) {
		s := api.CoolStep{Drop: 1 + random.IntN(1000)}
		s.Limit = min(1000000000, 1+a.Factor*a.Thick*a.Thick*s.Drop/(1+random.IntN(width)))
		a.Steps = append(a.Steps, s)
		least := leastOf(a, i)
		most := least + random.IntN(width)
		times = append(times, times[i]+least+random.IntN(most-least+1))
		if random.IntN(50) == 0 {
			most = least - 1
		}
		a.Steps[i].Most = max(1, min(100000, most))
	}
	for range random.IntN(maxWindows + 1) {
		level := random.IntN(len(times))
		from := max(0, times[level]-random.IntN(width))
		to := times[level] + random.IntN(width)
		if random.IntN(8) == 0 {
			from += random.IntN(width)
		}
		from = min(from, 1000000)
		a.Windows = append(a.Windows, window(level, from, max(from, min(to, 1000000))))
	}
	return a
}

// accepts tells whether times keep everything, as the definitions say it.
func accepts(a api.Annealing, times []int) bool {
	if len(times) != len(a.Steps)+1 || slices.Min(times) < 0 || slices.Max(times) > 10000000 {
		return false
	}
	for i, s := range a.Steps {
		if m := times[i+1] - times[i]; m < leastOf(a, i) || m > s.Most {
			return false
		}
	}
	for _, w := range a.Windows {
		if times[w.Level] < w.From || times[w.Level] > w.To {
			return false
		}
	}
	return true
}

// possible are the earliest times, found level by level: first the range of the times of each level that those below
// it allow, then of these ranges what those above allow.
func possible(a api.Annealing) ([]int, bool) {
	levels := len(a.Steps) + 1
	lo, hi := make([]int, levels), slices.Repeat([]int{math.MaxInt / 2}, levels)
	for _, w := range a.Windows {
		lo[w.Level], hi[w.Level] = max(lo[w.Level], w.From), min(hi[w.Level], w.To)
	}
	for i, s := range a.Steps {
		lo[i+1], hi[i+1] = max(lo[i+1], lo[i]+leastOf(a, i)), min(hi[i+1], hi[i]+s.Most)
		if s.Most < leastOf(a, i) {
			return nil, false
		}
	}
	for i := range lo {
		if lo[i] > hi[i] {
			return nil, false
		}
	}
	for i := len(a.Steps) - 1; i >= 0; i-- {
		lo[i] = max(lo[i], lo[i+1]-a.Steps[i].Most)
	}
	return lo, true
}

// checkEarliest checks the times of an annealing, or its circle, and tells whether there are times.
func checkEarliest(t *testing.T, a api.Annealing) bool {
	t.Helper()
	want, ok := possible(a)
	times, circle, e := blank.Earliest(a)
	if ok {
		if !slices.Equal(times, want) || len(circle) != 0 || e != api.OK || !accepts(a, times) {
			t.Fatal(a, times, circle, e, want)
		}
		if n, e := blank.CheckTimes(a, times); n != 0 || e != api.OK {
			t.Fatal(a, times, n, e)
		}
		return true
	}
	if len(times) != 0 || e != api.ErrCycle {
		t.Fatal(a, times, circle, e)
	}
	bounds, _ := blank.CoolSystem(a)
	sum := 0
	for i, n := range circle {
		sum += bounds[n].Most
		if bounds[n].To != bounds[circle[(i+1)%len(circle)]].From {
			t.Fatal("no circle", a, circle)
		}
	}
	if n, e := blank.CheckCircle(a, circle); n != sum || sum >= 0 || e != api.OK {
		t.Fatal(a, circle, sum, n, e)
	}
	return false
}

func TestP3_5Examples(t *testing.T) {
	late := cooling(window(1, 700, 900))
	for _, x := range []struct {
		a    api.Annealing
		want []int
	}{
		{cooling(), []int{0, 180, 230}},
		{cooling(window(1, 200, 300)), []int{0, 200, 250}},
		{late, []int{300, 700, 750}},
		{cooling(window(0, 3, 3), window(0, 0, 9)), []int{3, 183, 233}},
		{cooling(window(2, 700, 900), window(1, 0, 600)), []int{200, 600, 700}},
	} {
		times, circle, e := blank.Earliest(x.a)
		if !slices.Equal(times, x.want) || len(circle) != 0 || e != api.OK {
			t.Error(x.a, times, circle, e)
		}
	}
	never := cooling(window(2, 0, 200))
	if times, circle, e := blank.Earliest(never); len(times) != 0 || len(circle) == 0 || e != api.ErrCycle {
		t.Error(times, circle, e)
	}
	hurried := cooling()
	hurried.Steps[1].Most = 49
	times, circle, e := blank.Earliest(hurried)
	slices.Sort(circle)
	if len(times) != 0 || !slices.Equal(circle, []int{5, 6}) || e != api.ErrCycle {
		t.Error(times, circle, e)
	}
	clash := cooling(window(1, 300, 400), window(1, 401, 500))
	times, circle, e = blank.Earliest(clash)
	slices.Sort(circle)
	if len(times) != 0 || !slices.Equal(circle, []int{7, 10}) || e != api.ErrCycle {
		t.Error(times, circle, e)
	}
}

func TestP3_5System(t *testing.T) {
	a := cooling(window(2, 7, 9), window(0, 0, 300))
	want := []api.CoolBound{{From: 0, To: -1}, {From: 1, To: -1}, {From: 2, To: -1},
		{From: 0, To: 1, Most: 400}, {From: 1, To: 0, Most: -180}, {From: 1, To: 2, Most: 100}, {From: 2, To: 1, Most: -50},
		{From: -1, To: 2, Most: 9}, {From: 2, To: -1, Most: -7}, {From: -1, To: 0, Most: 300}, {From: 0, To: -1, Most: 0}}
	if l, e := blank.CoolSystem(a); !slices.Equal(l, want) || e != api.OK {
		t.Error(l, e)
	}
	random := rand.New(rand.NewPCG(3, 5))
	for range 300 {
		a := someAnnealing(random, 30, 60)
		l, e := blank.CoolSystem(a)
		if len(l) != 1+3*len(a.Steps)+2*len(a.Windows) || e != api.OK {
			t.Fatal(a, len(l), e)
		}
		for _, b := range l {
			if b.From < -1 || b.To < -1 || b.From > len(a.Steps) || b.To > len(a.Steps) || b.From == b.To {
				t.Fatal(a, b)
			}
		}
	}
}

// TestP3_5SystemSaysIt checks that times keep the bounds if they are accepted, and only then.
func TestP3_5SystemSaysIt(t *testing.T) {
	random := rand.New(rand.NewPCG(5, 3))
	counts := map[bool]int{}
	for range 3000 {
		a := someAnnealing(random, 4, 3)
		bounds, _ := blank.CoolSystem(a)
		times, _, _ := blank.Earliest(a)
		if times == nil {
			times = make([]int, len(a.Steps)+1)
		}
		for range 10 {
			moved := slices.Clone(times)
			for i := range moved {
				moved[i] += random.IntN(4) - random.IntN(2)*random.IntN(4)
			}
			keeps := true
			all := append([]int{0}, moved...)
			for _, b := range bounds {
				keeps = keeps && all[b.To+1]-all[b.From+1] <= b.Most
			}
			if _, e := blank.CheckTimes(a, moved); (e == api.OK) != keeps || keeps != accepts(a, moved) {
				t.Fatal(a, moved, keeps, e)
			}
			counts[keeps]++
		}
	}
	if min(counts[true], counts[false]) < 1000 {
		t.Error("too few of a kind", counts)
	}
}

func TestP3_5Earliest(t *testing.T) {
	random := rand.New(rand.NewPCG(5, 5))
	counts := map[bool]int{}
	for range 20000 {
		size := random.IntN(4)
		counts[checkEarliest(t, someAnnealing(random, []int{1, 3, 10, 30}[size], []int{2, 3, 8, 60}[size]))]++
	}
	if min(counts[true], counts[false]) < 3000 {
		t.Error("too few of a kind", counts)
	}
}

// TestP3_8EarliestOfAll tries all times of small annealings.
func TestP3_8EarliestOfAll(t *testing.T) {
	random := rand.New(rand.NewPCG(3, 8))
	counts := map[bool]int{}
	for range 1500 {
		a := api.Annealing{Thick: 1, Factor: 1 + random.IntN(3)}
		for range 1 + random.IntN(2) {
			a.Steps = append(a.Steps, api.CoolStep{Drop: 1 + random.IntN(4), Limit: 1 + random.IntN(3), Most: 1 + random.IntN(6)})
		}
		for range random.IntN(4) {
			from := random.IntN(12)
			a.Windows = append(a.Windows, window(random.IntN(len(a.Steps)+1), from, from+random.IntN(4)))
		}
		earliest, circle, e := blank.Earliest(a)
		isPossible := false
		times := make([]int, len(a.Steps)+1)
		for n := range 27 * 27 * 27 {
			for i := range times {
				times[i] = n % 27
				n /= 27
			}
			if n > 0 {
				break
			}
			if !accepts(a, times) {
				continue
			}
			isPossible = true
			for i := range times {
				if e != api.OK || earliest[i] > times[i] {
					t.Fatal(a, earliest, circle, e, times)
				}
			}
		}
		if isPossible != (e == api.OK) || e == api.OK && !accepts(a, earliest) {
			t.Fatal(a, earliest, circle, e)
		}
		counts[isPossible]++
	}
	if min(counts[true], counts[false]) < 300 {
		t.Error("too few of a kind", counts)
	}
}

// TestP3_5LongChains has schedules whose every step is decided by the window of the last level.
func TestP3_5LongChains(t *testing.T) {
	for count := 1; count <= 30; count++ {
		a := api.Annealing{Thick: 1, Factor: 1, Windows: []api.CoolWindow{window(count, 5000, 5000)}}
		for i := range count {
			a.Steps = append(a.Steps, api.CoolStep{Drop: 100, Limit: 10, Most: 11 + i})
		}
		if !checkEarliest(t, a) {
			t.Error("there are times", count)
		}
		times, _, _ := blank.Earliest(a)
		a.Windows = append(a.Windows, window(0, 0, times[0]))
		if !checkEarliest(t, a) {
			t.Error("there are times", count)
		}
		a.Windows[1].To--
		if checkEarliest(t, a) {
			t.Error("there are no times", count)
		}
		_, circle, _ := blank.Earliest(a)
		if n, e := blank.CheckCircle(a, circle); len(circle) != count+2 || n != -1 || e != api.OK {
			t.Error(count, circle, n, e)
		}
		a.Windows = []api.CoolWindow{window(0, 300, 400), window(count, 0, 300+10*count)}
		if !checkEarliest(t, a) {
			t.Error("there are times", count)
		}
		a.Windows[1].To--
		if checkEarliest(t, a) {
			t.Error("there are no times", count)
		}
	}
}

func TestP3_5Times(t *testing.T) {
	a := cooling(window(1, 700, 900), window(2, 0, 990), window(0, 300, 600))
	for _, x := range []struct {
		times []int
		n     int
		e     api.Errno
	}{
		{[]int{300, 700, 750}, 0, api.OK}, {[]int{500, 700, 800}, 0, api.OK}, {[]int{520, 700, 750}, 0, api.OK},
		{nil, 0, api.ErrShape}, {[]int{300, 700}, 0, api.ErrShape}, {[]int{-1, 700, 750, 9}, 0, api.ErrShape},
		{[]int{-1, 700, -1}, 0, api.ErrRange}, {[]int{900, -1, 750}, 1, api.ErrRange}, {[]int{900, 7, 10000001}, 2, api.ErrRange},
		{[]int{math.MinInt, 7, 9}, 0, api.ErrRange}, {[]int{0, math.MaxInt, 9}, 1, api.ErrRange}, {[]int{0, 0, math.MaxInt}, 2, api.ErrRange},
		{[]int{10000000, 0, 0}, 0, api.ErrEarly}, {[]int{521, 700, 749}, 0, api.ErrEarly}, {[]int{520, 700, 749}, 1, api.ErrEarly},
		{[]int{520, 700, 0}, 1, api.ErrEarly}, {[]int{299, 700, 749}, 0, api.ErrLate}, {[]int{0, 0, 10000000}, 0, api.ErrEarly},
		{[]int{300, 700, 801}, 1, api.ErrLate}, {[]int{300, 700, 10000000}, 1, api.ErrLate}, {[]int{0, 10000000, 10000000}, 0, api.ErrLate},
		{[]int{299, 699, 750}, 0, api.ErrBreak}, {[]int{601, 901, 991}, 0, api.ErrBreak}, {[]int{600, 900, 991}, 1, api.ErrBreak},
		{[]int{601, 900, 990}, 2, api.ErrBreak}, {[]int{600, 900, 990}, 0, api.OK}, {[]int{300, 700, 800}, 0, api.OK},
	} {
		if n, e := blank.CheckTimes(a, x.times); n != x.n || e != x.e {
			t.Error(x, n, e)
		}
		if e := timesError(t, demand{a: a, times: x.times}); e != x.e {
			t.Error(x, e)
		}
	}
	// in fewer than the least minutes, which are more than the most
	hurried := cooling()
	hurried.Steps[0].Most = 100
	if n, e := blank.CheckTimes(hurried, []int{0, 150, 200}); n != 0 || e != api.ErrEarly {
		t.Error(n, e)
	}
	if n, e := blank.CheckTimes(hurried, []int{0, 180, 230}); n != 0 || e != api.ErrLate {
		t.Error(n, e)
	}
	hurried.Factor = 1001
	if n, e := blank.CheckTimes(hurried, []int{0, -1, 2, 3}); n != 0 || e != api.ErrRange {
		t.Error(n, e)
	}
	if n, e := blank.CheckTimes(cooling(), []int{9999000, 9999180, 9999230}); n != 0 || e != api.OK {
		t.Error(n, e)
	}
	if n, e := blank.CheckTimes(cooling(), []int{9999770, 9999950, 10000000}); n != 0 || e != api.OK {
		t.Error(n, e)
	}
}

func TestP3_5Circles(t *testing.T) {
	never := cooling(window(2, 0, 200))
	long := func(n int) []int { return slices.Repeat([]int{4, 3}, n)[:n] }
	for _, x := range []struct {
		a      api.Annealing
		circle []int
		n      int
		e      api.Errno
	}{
		{never, []int{7, 6, 4, 0}, -30, api.OK}, {never, []int{4, 0, 7, 6}, -30, api.OK}, {never, []int{7, 6, 4, 0, 7, 6, 4, 0}, -60, api.OK},
		{never, nil, 0, api.ErrShape}, {never, long(200), 0, api.ErrProof}, {never, long(201), 0, api.ErrShape}, {never, long(202), 0, api.ErrShape},
		{never, make([]int, 5000), 0, api.ErrShape}, {never, slices.Repeat([]int{99}, 201), 0, api.ErrShape},
		{never, slices.Repeat([]int{7, 6, 4, 0}, 50), -1500, api.OK}, {never, long(199), 0, api.ErrOpen},
		{never, []int{9}, 0, api.ErrMissing}, {never, []int{-1}, 0, api.ErrMissing}, {never, []int{0, 0, 9}, 0, api.ErrMissing},
		{never, []int{math.MinInt, 0}, 0, api.ErrMissing}, {never, []int{0, math.MaxInt}, 0, api.ErrMissing},
		{never, []int{7, 6, 4}, 0, api.ErrOpen}, {never, []int{6, 4, 0}, 0, api.ErrOpen}, {never, []int{0}, 0, api.ErrOpen}, {never, []int{4}, 0, api.ErrOpen},
		{never, []int{7, 4, 6, 0}, 0, api.ErrOpen}, {never, []int{0, 4, 6, 7}, 0, api.ErrOpen}, {never, []int{4, 4}, 0, api.ErrOpen},
		{never, []int{3, 4}, 0, api.ErrProof}, {never, []int{8, 7}, 0, api.ErrProof}, {never, []int{7, 8}, 0, api.ErrProof},
		{cooling(window(2, 0, 230)), []int{7, 6, 4, 0}, 0, api.ErrProof}, {cooling(window(2, 0, 229)), []int{7, 6, 4, 0}, -1, api.OK},
		{cooling(window(1, 5, 5), window(1, 6, 7)), []int{7, 10}, -1, api.OK},
		{cooling(window(1, 5, 5), window(1, 5, 7)), []int{7, 10}, 0, api.ErrProof},
		{api.Annealing{}, nil, 0, api.ErrRange},
	} {
		if n, e := blank.CheckCircle(x.a, x.circle); n != x.n || e != x.e {
			t.Error(x, n, e)
		}
	}
	hurried := cooling()
	hurried.Steps[1].Most = 49
	if n, e := blank.CheckCircle(hurried, []int{6, 5}); n != -1 || e != api.OK {
		t.Error(n, e)
	}
}

func TestP3_5Worst(t *testing.T) {
	equal := cooling()
	equal.Steps[1] = equal.Steps[0]
	near := api.Annealing{Thick: 1, Factor: 1, Steps: []api.CoolStep{
		{Drop: 100, Limit: 1000, Most: 1000}, {Drop: 101, Limit: 1000, Most: 1000}, {Drop: 99, Limit: 1000, Most: 1000}}}
	calm := cooling()
	calm.Factor = 0
	for _, x := range []struct {
		a     api.Annealing
		times []int
		n     int
		r     api.Range
	}{
		{cooling(), []int{0, 180, 230}, 1, span(9000, 9000)},
		{cooling(), []int{7, 187, 287}, 0, span(5000, 5000)},
		{cooling(), []int{0, 181, 273}, 0, span(4972, 4973)},
		{equal, []int{0, 200, 400}, 0, span(4500, 4500)},
		{equal, []int{0, 201, 401}, 1, span(4500, 4500)},
		{equal, []int{0, 200, 401}, 0, span(4500, 4500)},
		{near, []int{0, 300, 603, 900}, 0, span(0, 1)},
		{near, []int{0, 301, 604, 901}, 1, span(0, 1)},
		{near, []int{0, 301, 605, 902}, 2, span(0, 1)},
		{near, []int{0, 300, 602, 900}, 1, span(0, 1)},
		{calm, []int{0, 100, 101}, 0, span(0, 0)},
	} {
		if n, r, e := blank.Worst(x.a, x.times); n != x.n || r != x.r || e != api.OK {
			t.Error(x, n, r, e)
		}
	}
	if n, r, e := blank.Worst(cooling(), []int{0, 180, 300}); n != 0 || r != (api.Range{}) || e != api.ErrLate {
		t.Error(n, r, e)
	}
}

func TestP3_5WorstExactly(t *testing.T) {
	random := rand.New(rand.NewPCG(5, 8))
	for range 5000 {
		a := someAnnealing(random, 6, 0)
		times := []int{random.IntN(1000)}
		for i, s := range a.Steps {
			least := leastOf(a, i)
			times = append(times, times[i]+least+random.IntN(max(1, min(9, s.Most-least+1))))
		}
		n, r, e := blank.Worst(a, times)
		if !accepts(a, times) {
			if n != 0 || r != (api.Range{}) || e == api.OK {
				t.Fatal(a, times, n, r, e)
			}
			continue
		}
		if want, e2 := blank.StressOf(a, n, times[n+1]-times[n]); r != want || e != api.OK || e2 != api.OK {
			t.Fatal(a, times, n, r, e)
		}
		for i, s := range a.Steps {
			difference := a.Factor * (s.Drop*(times[n+1]-times[n]) - a.Steps[n].Drop*(times[i+1]-times[i]))
			if difference > 0 || difference == 0 && i < n {
				t.Fatal(a, times, n, i)
			}
		}
	}
}

func TestP3_8Stresses(t *testing.T) {
	random := rand.New(rand.NewPCG(8, 8))
	atOnce := 0
	for range 20000 {
		a := someAnnealing(random, 1, 0)
		least, e := blank.LeastMinutes(a, 0)
		if e != api.OK || least != leastOf(a, 0) {
			t.Fatal(a, least, e)
		}
		if r, e := blank.StressOf(a, 0, least); e != api.OK || r.Hi > a.Steps[0].Limit {
			t.Fatal(a, least, r, e)
		}
		if least == 1 {
			atOnce++
		} else if r, e := blank.StressOf(a, 0, least-1); e != api.OK || r.Hi <= a.Steps[0].Limit {
			t.Fatal(a, least, r, e)
		}
		if a.Thick < 500 {
			a.Thick += 1 + random.IntN(500-a.Thick)
			if more, e := blank.LeastMinutes(a, 0); e != api.OK || more < least {
				t.Fatal(a, least, more, e)
			}
		}
	}
	if atOnce > 15000 {
		t.Error("too few of a kind", atOnce)
	}
}

// TestP3_8NothingEarlier moves accepted times: none of them is earlier than the earliest ones.
func TestP3_8NothingEarlier(t *testing.T) {
	random := rand.New(rand.NewPCG(8, 3))
	accepted := 0
	for range 3000 {
		a := someAnnealing(random, 5, 3)
		earliest, _, e := blank.Earliest(a)
		if e != api.OK {
			continue
		}
		times := slices.Clone(earliest)
		for range 40 {
			moved := slices.Clone(times)
			at := random.IntN(len(moved))
			by := random.IntN(9) - 4
			for i := at; i < len(moved) && (i == at || random.IntN(3) > 0); i++ {
				moved[i] += by
			}
			if _, e := blank.CheckTimes(a, moved); e != api.OK {
				continue
			}
			accepted++
			times = moved
			for i := range times {
				if times[i] < earliest[i] {
					t.Fatal(a, times, earliest)
				}
			}
		}
	}
	if accepted < 5000 {
		t.Error("too few accepted", accepted)
	}
}

package profile_test

import (
	"math"
	"math/rand/v2"
	"slices"
	"testing"

	"speculum/api"
	"speculum/profile"
)

// fringes is the arguments of all functions of fringe maps, of which valid ones are accepted.
type fringes struct {
	f        api.FringeMap
	from, to int
	loop     []int
}

func phases(width int, l ...int) api.FringeMap {
	return api.FringeMap{Width: width, Phases: l}
}

func validFringes() fringes {
	return fringes{phases(3, 0, 400, -1, 100, 500, 900), 1, 4, []int{0, 1, 4, 3}}
}

// residue is the map of the chapter's fifth example.
func residue() api.FringeMap {
	return phases(2, 0, 400, 800, 600)
}

func fringeError(t *testing.T, x fringes) api.Errno {
	t.Helper()
	l, e := profile.Residues(x.f)
	none(t, e, l == nil)
	heights, loop, e2 := profile.Unwrap(x.f)
	none(t, e2, heights == nil && loop == nil)
	e3 := loopError(t, x)
	if e3 == api.ErrProof { // the loop of valid fringes closes
		e3 = api.OK
	}
	return agree(t, profile.CheckFringes(x.f), e, e2, e3, stepError(t, x))
}

func stepError(t *testing.T, x fringes) api.Errno {
	t.Helper()
	n, e := profile.Step(x.f, x.from, x.to)
	none(t, e, n == 0)
	return e
}

func loopError(t *testing.T, x fringes) api.Errno {
	t.Helper()
	n, e := profile.CheckLoop(x.f, x.loop)
	none(t, e, n == 0)
	return e
}

func mapFaults() []fault[fringes] {
	l := slices.Concat(
		numberFaults(func(x *fringes) *int { return &x.f.Width }, 1, 12, api.ErrRange),
		[]fault[fringes]{
			{func(x *fringes) { x.f.Phases = nil }, api.ErrShape},
			{func(x *fringes) { x.f.Phases = append(x.f.Phases, 7) }, api.ErrShape},
			{func(x *fringes) { x.f.Phases = make([]int, 39) }, api.ErrShape},
		},
	)
	for i := range 6 {
		l = append(l, numberFaults(func(x *fringes) *int { return &x.f.Phases[i] }, -1, 999, api.ErrRange)...)
	}
	return l
}

func TestP5_6Faults(t *testing.T) {
	checkFaults(t, validFringes, fringeError, mapFaults())
	for _, x := range []struct {
		width, cells int
		want         api.Errno
	}{
		{3, 5, api.ErrShape}, {3, 7, api.ErrShape}, {3, 1, api.ErrShape}, {3, 0, api.ErrShape}, {1, 0, api.ErrShape}, {1, 1, api.OK}, {1, 12, api.OK}, {1, 13, api.ErrShape},
		{12, 12, api.OK}, {12, 144, api.OK}, {12, 156, api.ErrShape}, {12, 145, api.ErrShape}, {12, 11, api.ErrShape}, {12, 6, api.ErrShape}, {11, 132, api.OK}, {11, 143, api.ErrShape},
		{0, 0, api.ErrRange}, {13, 13, api.ErrRange}, {-1, 1, api.ErrRange}, {4, 36, api.OK},
	} {
		if e := profile.CheckFringes(api.FringeMap{Width: x.width, Phases: make([]int, x.cells)}); e != x.want {
			t.Error(x, e)
		}
	}
	isValid := func(t *testing.T, x fringes) api.Errno { return profile.CheckFringes(x.f) }
	checkLimits(t, validFringes, isValid, func(x *fringes) *int { return &x.f.Phases[4] }, -1, 999)
}

func TestP5_6Steps(t *testing.T) {
	checkFaults(t, validFringes, stepError, slices.Concat(
		mapFaults()[:5],
		numberFaults(func(x *fringes) *int { return &x.from }, 0, 5, api.ErrMissing),
		numberFaults(func(x *fringes) *int { return &x.to }, 0, 5, api.ErrMissing),
		[]fault[fringes]{
			{func(x *fringes) { x.from = 2 }, api.ErrMissing},
			{func(x *fringes) { x.to = 2 }, api.ErrMissing},
			{func(x *fringes) { x.from, x.to = 2, 2 }, api.ErrMissing},
			{func(x *fringes) { x.from, x.to = 0, 4 }, api.ErrGap},
			{func(x *fringes) { x.from, x.to = 4, 4 }, api.ErrGap},
		},
	))
	full := phases(3, 0, 400, 800, 100, 500, 900)
	for _, x := range []struct {
		from, to, want int
		e              api.Errno
	}{
		{0, 1, 400, api.OK}, {1, 0, -400, api.OK}, {1, 2, 400, api.OK}, {0, 3, 100, api.OK}, {3, 0, -100, api.OK}, {4, 5, 400, api.OK}, {5, 2, -100, api.OK}, {2, 5, 100, api.OK},
		{2, 3, 0, api.ErrGap}, {3, 2, 0, api.ErrGap}, {0, 2, 0, api.ErrGap}, {0, 4, 0, api.ErrGap}, {1, 3, 0, api.ErrGap}, {0, 0, 0, api.ErrGap}, {0, 5, 0, api.ErrGap},
		{0, 6, 0, api.ErrMissing}, {6, 0, 0, api.ErrMissing}, {6, 6, 0, api.ErrMissing}, {-1, 2, 0, api.ErrMissing}, {2, -1, 0, api.ErrMissing}, {math.MaxInt, math.MinInt, 0, api.ErrMissing},
	} {
		if n, e := profile.Step(full, x.from, x.to); n != x.want || e != x.e {
			t.Error(x, n, e)
		}
	}
	column := phases(1, 0, 400, 900)
	for _, x := range []struct {
		from, to, want int
		e              api.Errno
	}{
		{0, 1, 400, api.OK}, {1, 2, -500, api.OK}, {2, 1, 500, api.OK}, {0, 2, 0, api.ErrGap},
	} {
		if n, e := profile.Step(column, x.from, x.to); n != x.want || e != x.e {
			t.Error(x, n, e)
		}
	}
}

// wrapped is a difference brought to -500 to 499.
func wrapped(diff int) int {
	for diff > 499 {
		diff -= 1000
	}
	for diff < -500 {
		diff += 1000
	}
	return diff
}

// stepOf is the step between two cells, and whether they are neighbours.
func stepOf(f api.FringeMap, a, b int) (int, bool) {
	if f.Phases[a] == -1 || f.Phases[b] == -1 {
		return 0, false
	}
	rows, columns := b/f.Width-a/f.Width, b%f.Width-a%f.Width
	switch [2]int{rows, columns} {
	case [2]int{0, 1}, [2]int{1, 0}:
		return wrapped(f.Phases[b] - f.Phases[a]), true
	case [2]int{0, -1}, [2]int{-1, 0}:
		return -wrapped(f.Phases[a] - f.Phases[b]), true
	}
	return 0, false
}

func TestP5_6AllSteps(t *testing.T) {
	for a := range 1000 {
		for b := range 1000 {
			for _, width := range []int{1, 2} {
				f := phases(width, a, b)
				n, e := profile.Step(f, 0, 1)
				m, e2 := profile.Step(f, 1, 0)
				if n != wrapped(b-a) || m != -n || e != api.OK || e2 != api.OK {
					t.Fatal(f, n, e, m, e2)
				}
			}
		}
	}
	for _, n := range []int{499, 500, 501, 999} {
		forth, _ := profile.Step(phases(2, 0, n), 0, 1)
		back, _ := profile.Step(phases(2, n, 0), 0, 1)
		if forth != wrapped(n) || back != wrapped(-n) {
			t.Error(n, forth, back)
		}
	}
}

// someMap is a map of a surface, often with masked cells, and often with a few phases that do not fit.
func someMap(random *rand.Rand) api.FringeMap {
	width, rows := 1+random.IntN(12), 1+random.IntN(12)
	masks, wrong := random.IntN(3)*random.IntN(4), random.IntN(3)/2*random.IntN(30)
	right, below, bend := random.IntN(800)-400, random.IntN(800)-400, random.IntN(20)-10
	f := api.FringeMap{Width: width}
	for cell := range width * rows {
		x, y := cell%width, cell/width
		phase := ((x*right+y*below+bend*x*y)%1000 + 1000) % 1000
		if random.IntN(10) < masks {
			phase = -1
		}
		if random.IntN(100) < wrong {
			phase = random.IntN(1000)
		}
		f.Phases = append(f.Phases, phase)
	}
	return f
}

// allSteps calls a function for each two cells of a map, with their step, if they are neighbours.
func allSteps(f api.FringeMap, visit func(a, b, step int)) {
	for a := range f.Phases {
		for b := range f.Phases {
			if step, ok := stepOf(f, a, b); ok {
				visit(a, b, step)
			}
		}
	}
}

func TestP5_6StepsByDefinition(t *testing.T) {
	random := rand.New(rand.NewPCG(5, 6))
	for range 150 {
		f := someMap(random)
		for a := range f.Phases {
			for b := range f.Phases {
				want, ok := stepOf(f, a, b)
				wanted := api.OK
				if !ok {
					wanted = api.ErrGap
				}
				if f.Phases[a] == -1 || f.Phases[b] == -1 {
					wanted = api.ErrMissing
				}
				if n, e := profile.Step(f, a, b); n != want || e != wanted {
					t.Fatal(f, a, b, n, e)
				}
			}
		}
	}
}

func TestP5_6Residues(t *testing.T) {
	for _, x := range []struct {
		f    api.FringeMap
		want [][2]int
	}{
		{residue(), [][2]int{{0, 1}}},
		{phases(2, 0, 800, 400, 600), [][2]int{{0, -1}}},
		{phases(2, 0, 400, 100, 500), nil},
		{phases(2, 0, 500, 500, 0), nil},   // -500 - 500 + 500 + 500
		{phases(2, 0, 500, 250, 750), nil}, // -500 + 250 + 500 - 250
		{phases(2, 0, 250, 750, 500), [][2]int{{0, 1}}},
		{phases(2, 0, 750, 250, 500), [][2]int{{0, -1}}},
		{phases(2, 999, 0, 999, 0), nil},
		{phases(2, 0, 400, 800, -1), nil},
		{phases(2, -1, 400, 800, 600), nil},
		{phases(2, 0, -1, 800, 600), nil},
		{phases(2, 0, 400, -1, 600), nil},
		{phases(1, 0, 400, 800, 600), nil},
		{phases(4, 0, 400, 800, 600), nil},
		{phases(1, 0), nil},
		{phases(3, 0, 400, 0, 800, 600, 800), [][2]int{{0, 1}, {1, -1}}},
		{phases(2, 0, 400, 800, 600, 0, 400), [][2]int{{0, 1}, {2, -1}}},
		{phases(3, 0, 0, 0, 0, 0, 400, 0, 800, 600), [][2]int{{4, 1}}},
		{phases(3, -1, -1, 0, 400, -1, 800, 600, -1, -1), nil}, // the end of a row and the next one make no square
	} {
		if l, e := profile.Residues(x.f); !slices.Equal(l, x.want) || e != api.OK {
			t.Error(x, l, e)
		}
	}
}

// squareSum is the sum of the loop right, down, left and up from a cell, and whether there is one.
func squareSum(f api.FringeMap, cell int) (int, bool) {
	x, y := cell%f.Width, cell/f.Width
	sum, at := 0, cell
	for _, next := range [][2]int{{x + 1, y}, {x + 1, y + 1}, {x, y + 1}, {x, y}} {
		to := next[1]*f.Width + next[0]
		if next[0] >= f.Width || to >= len(f.Phases) {
			return 0, false
		}
		step, ok := stepOf(f, at, to)
		if !ok {
			return 0, false
		}
		sum, at = sum+step, to
	}
	return sum, true
}

func TestP5_6ResiduesByDefinition(t *testing.T) {
	random := rand.New(rand.NewPCG(6, 5))
	positive, negative := 0, 0
	for range 3000 {
		f := someMap(random)
		var want [][2]int
		for cell := range f.Phases {
			if sum, ok := squareSum(f, cell); ok && sum != 0 {
				want = append(want, [2]int{cell, sum / 1000})
				if sum > 0 {
					positive++
				} else {
					negative++
				}
			}
		}
		if l, e := profile.Residues(f); !slices.Equal(l, want) || e != api.OK {
			t.Fatal(f, l, e, want)
		}
	}
	if positive < 1000 || negative < 1000 {
		t.Error("too few of a kind", positive, negative)
	}
}

// sumOf is the sum of a loop, and whether it is one.
func sumOf(f api.FringeMap, loop []int) (int, bool) {
	sum := 0
	for i, cell := range loop {
		step, ok := stepOf(f, cell, loop[(i+1)%len(loop)])
		if !ok {
			return 0, false
		}
		sum += step
	}
	return sum, true
}

// checkUnwrap checks by the definitions alone the heights of a map, or the loop that does not close.
func checkUnwrap(t *testing.T, f api.FringeMap) ([]int, api.Errno) {
	t.Helper()
	heights, loop, e := profile.Unwrap(f)
	if e == api.ErrOpen {
		if heights != nil || len(loop) < 2 || len(loop) > len(f.Phases) || slices.Min(loop) < 0 || slices.Max(loop) >= len(f.Phases) {
			t.Fatal(f, heights, loop)
		}
		sum, ok := sumOf(f, loop)
		if !ok || sum == 0 {
			t.Fatal("no loop that does not close", f, loop, sum)
		}
		if n, e := profile.CheckLoop(f, loop); n != sum || e != api.OK {
			t.Fatal(f, loop, n, e)
		}
		return nil, e
	}
	if e != api.OK || loop != nil || len(heights) != len(f.Phases) {
		t.Fatal(f, heights, loop, e)
	}
	least := make([]int, len(f.Phases)) // the least cell of the region of each one
	for cell := range least {
		least[cell] = cell
	}
	for isLess := true; isLess; {
		isLess = false
		allSteps(f, func(a, b, step int) {
			if heights[b]-heights[a] != step {
				t.Fatal("a step is not kept", f, heights, a, b)
			}
			if least[a] < least[b] {
				least[b], isLess = least[a], true
			}
		})
	}
	for cell, phase := range f.Phases {
		if phase == -1 && heights[cell] != 0 || phase != -1 && least[cell] == cell && heights[cell] != phase {
			t.Fatal("another height", f, heights, cell)
		}
	}
	return heights, e
}

func TestP5_6Unwrap(t *testing.T) {
	for _, x := range []struct {
		f    api.FringeMap
		want []int
	}{
		{phases(2, 0, 400, 100, 500), []int{0, 400, 100, 500}},
		{phases(2, 900, 100, -1, 300), []int{900, 1100, 0, 1300}},
		{phases(4, 900, 100, 300, 700), []int{900, 1100, 1300, 1700}},
		{phases(1, 100, 700, 200, 800), []int{100, -300, -800, -1200}},
		{phases(2, 0, 500), []int{0, -500}},
		{phases(2, 500, 0), []int{500, 0}},
		{phases(1, 7), []int{7}},
		{phases(1, -1), []int{0}},
		{phases(3, -1, -1, -1, -1, -1, -1), make([]int, 6)},
		// three regions, of which the last one begins above its left cell
		{phases(3, 900, -1, 900, -1, 600, 100, 900, -1, 200), []int{900, 0, 900, 0, 1600, 1100, 900, 0, 1200}},
		// the least cell of a region is right of its others
		{phases(3, -1, 900, 400, 700, 200, -1), []int{0, 900, 400, 1700, 1200, 0}},
		{residue(), nil},
		{phases(3, 7, 0, 400, 7, 800, 600), nil},
		// round a masked cell
		{phases(3, 0, 125, 250, 875, -1, 375, 750, 625, 500), nil},
		{phases(3, 0, 125, 250, 375, -1, 375, 250, 125, 0), []int{0, 125, 250, 375, 0, 375, 250, 125, 0}},
		// the round is open
		{phases(3, 0, 125, 250, -1, -1, 375, 750, 625, 500), []int{0, 125, 250, 0, 0, 375, 750, 625, 500}},
		{phases(3, 0, 125, 250, 875, -1, -1, 750, 625, 500), []int{0, 125, 250, -125, 0, 0, -250, -375, -500}},
	} {
		if heights, _ := checkUnwrap(t, x.f); !slices.Equal(heights, x.want) {
			t.Error(x, heights)
		}
	}
	if _, loop, e := profile.Unwrap(phases(3, 0, 125, 250, 875, -1, 375, 750, 625, 500)); len(loop) != 8 || e != api.ErrOpen {
		t.Error("the only loop is round the masked cell", loop, e)
	}
	if l, e := profile.Residues(phases(3, 0, 125, 250, 875, -1, 375, 750, 625, 500)); l != nil || e != api.OK {
		t.Error(l, e)
	}
}

// spiral is a map of 12 by 12 cells whose region is one long way, on which phases rise.
func spiral() api.FringeMap {
	f := api.FringeMap{Width: 12, Phases: slices.Repeat([]int{-1}, 144)}
	phase := 0
	for row := range 12 {
		for i := range 12 {
			column := i
			if row%4 == 2 {
				column = 11 - i
			}
			if row%4 == 1 && column < 11 || row%4 == 3 && column > 0 {
				continue
			}
			f.Phases[row*12+column] = phase % 1000
			phase += 499
		}
	}
	return f
}

func TestP5_6LongLoops(t *testing.T) {
	if heights, e := checkUnwrap(t, spiral()); e != api.OK || slices.Max(heights) != 77*499 {
		t.Error(heights, e)
	}
	// at its end a square that does not close: to the least cell of the region and back it would be too long
	far := spiral()
	for i, cell := range []int{120, 121, 133, 132} {
		far.Phases[cell] = i * 250
	}
	if _, e := checkUnwrap(t, far); e != api.ErrOpen {
		t.Error(e)
	}
	// a round of 44 cells at the edge, in the middle of which there is nothing
	f := api.FringeMap{Width: 12, Phases: slices.Repeat([]int{-1}, 144)}
	var edge []int
	for i := range 11 {
		edge = append(edge, i)
	}
	for i := range 11 {
		edge = append(edge, i*12+11)
	}
	for i := range 11 {
		edge = append(edge, 143-i)
	}
	for i := range 11 {
		edge = append(edge, 132-i*12)
	}
	for i, cell := range edge {
		f.Phases[cell] = i * 1000 / len(edge)
	}
	if _, loop, _ := profile.Unwrap(f); len(loop) != 44 {
		t.Error(loop)
	}
	checkUnwrap(t, f)
	if n, e := profile.CheckLoop(f, edge); n != 1000 || e != api.OK {
		t.Error(n, e)
	}
	slices.Reverse(edge)
	if n, e := profile.CheckLoop(f, edge); n != -1000 || e != api.OK {
		t.Error(n, e)
	}
}

func TestP5_6CheckLoop(t *testing.T) {
	valid := func() fringes {
		return fringes{f: phases(3, 0, 400, -1, 800, 600, 900), loop: []int{0, 1, 4, 3}}
	}
	var missing []fault[fringes]
	for i := range 4 {
		for _, cell := range []int{-1, 2, 6, math.MinInt, math.MaxInt} {
			missing = append(missing, fault[fringes]{func(x *fringes) { x.loop = []int{0, 1, 4, 3}; x.loop[i] = cell }, api.ErrMissing})
		}
	}
	checkFaults(t, valid, loopError, slices.Concat(
		mapFaults(),
		[]fault[fringes]{
			{func(x *fringes) { x.loop = nil }, api.ErrShape},
			{func(x *fringes) { x.loop = x.loop[:1] }, api.ErrShape},
			{func(x *fringes) { x.loop = slices.Repeat([]int{0, 1, 4, 3, 0}, 29) }, api.ErrShape},
		},
		missing,
		[]fault[fringes]{
			{func(x *fringes) { x.loop = []int{0, 1, 4} }, api.ErrGap},
			{func(x *fringes) { x.loop = []int{0, 4, 1, 3} }, api.ErrGap},
			{func(x *fringes) { x.loop = []int{0, 0, 1, 4, 3} }, api.ErrGap},
			{func(x *fringes) { x.loop = []int{0, 1, 4, 3, 0} }, api.ErrGap},
			{func(x *fringes) { x.loop = []int{0, 4} }, api.ErrGap},
			{func(x *fringes) { x.loop = []int{0, 0} }, api.ErrGap},
			{func(x *fringes) { x.loop = []int{0, 1} }, api.ErrProof},
			{func(x *fringes) { x.loop = []int{0, 1, 4, 1} }, api.ErrProof},
			{func(x *fringes) { x.loop = []int{0, 1, 4, 3, 0, 3, 4, 1} }, api.ErrProof},
		},
	))
	for _, x := range []struct {
		loop []int
		sum  int
		want api.Errno
	}{
		{nil, 0, api.ErrShape}, {[]int{0}, 0, api.ErrShape}, {[]int{7}, 0, api.ErrShape}, {[]int{0, 1, 3, 2}, 1000, api.OK}, {[]int{2, 3, 1, 0}, -1000, api.OK}, {[]int{1, 3, 2, 0}, 1000, api.OK},
		{[]int{0, 1, 3, 1, 3, 2}, 1000, api.OK}, {slices.Repeat([]int{0, 1, 3, 2}, 36), 36000, api.OK}, {slices.Repeat([]int{0, 1, 3, 2}, 37), 0, api.ErrShape},
		{append(slices.Repeat([]int{0, 1, 3, 2}, 36), 0), 0, api.ErrShape}, {slices.Repeat([]int{4}, 145), 0, api.ErrShape}, {slices.Repeat([]int{4}, 144), 0, api.ErrMissing},
		{[]int{0, 3, 4}, 0, api.ErrMissing}, {[]int{0, 3, 1}, 0, api.ErrGap}, {[]int{1, 0, 2, 3, 1, 0, 2, 3}, -2000, api.OK}, {[]int{0, 2, 0, 1, 3, 2}, 1000, api.OK},
		{[]int{0, 1, 3, 2, 0, 2, 3, 1}, 0, api.ErrProof},
	} {
		if n, e := profile.CheckLoop(residue(), x.loop); n != x.sum || e != x.want {
			t.Error(x, n, e)
		}
	}
	// the end of a row and the beginning of the next one are no neighbours
	if n, e := profile.CheckLoop(phases(3, 0, 1, 2, 3, 4, 5), []int{2, 3}); n != 0 || e != api.ErrGap {
		t.Error(n, e)
	}
}

func TestP5_12Fringes(t *testing.T) {
	random := rand.New(rand.NewPCG(5, 12))
	counts := map[api.Errno]int{}
	holes := 0
	for range 3000 {
		f := someMap(random)
		heights, e := checkUnwrap(t, f)
		counts[e]++
		residues, _ := profile.Residues(f)
		for cell, height := range heights {
			if f.Phases[cell] != -1 && (height-f.Phases[cell])%1000 != 0 {
				t.Fatal(f, heights, cell)
			}
		}
		if e == api.OK && residues != nil {
			t.Fatal("heights with residues", f, heights, residues)
		}
		isFull := !slices.Contains(f.Phases, -1)
		if e != api.OK && residues == nil {
			holes++
			if isFull {
				t.Fatal("a full map without residues does not close", f)
			}
		}
	}
	if counts[api.OK] < 500 || counts[api.ErrOpen] < 500 || holes < 3 {
		t.Error("too few of a kind", counts, holes)
	}
}

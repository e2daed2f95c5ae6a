package grind_test

import (
	"math/rand/v2"
	"slices"
	"strconv"
	"testing"

	"speculum/api"
	"speculum/grind"
)

// abrasion is the arguments of all functions of grits, of which valid ones are accepted.
type abrasion struct {
	l           []api.Grit
	grit, depth int
	sequence    []int
	depths      [2]int
}

func grit(name string, damage, rate int) api.Grit {
	return api.Grit{Name: name, Damage: damage, Rate: rate}
}

// chapterGrits are those of the chapter's examples.
func chapterGrits() []api.Grit {
	return []api.Grit{grit("coarse", 20000, 5000), grit("middle", 8000, 2000), grit("fine", 3000, 400)}
}

func validAbrasion() abrasion {
	return abrasion{l: chapterGrits(), grit: 2, depth: 9000, sequence: []int{0, 1, 2}, depths: [2]int{50000, 3000}}
}

// manyGrits are as many grits, each finer than the one before.
func manyGrits(n int) []api.Grit {
	var l []api.Grit
	for i := range n {
		l = append(l, grit("g"+strconv.Itoa(i), 12000-1000*i, 1+i))
	}
	return l
}

func gritsError(t *testing.T, x abrasion) api.Errno {
	t.Helper()
	return agree(t, grind.CheckGrits(x.l), stepError(t, x), depthsError(t, x))
}

func stepError(t *testing.T, x abrasion) api.Errno {
	t.Helper()
	n, e := grind.StepMinutes(x.l, x.grit, x.depth)
	none(t, e, n == 0)
	return e
}

func depthsError(t *testing.T, x abrasion) api.Errno {
	t.Helper()
	s, n, e := grind.Shortest(x.l, x.depths)
	none(t, e, s == nil && n == 0)
	return agree(t, e, sequenceError(t, x))
}

func sequenceError(t *testing.T, x abrasion) api.Errno {
	t.Helper()
	n, e := grind.CheckSequence(x.l, x.sequence, x.depths)
	none(t, e, n == 0)
	return e
}

func gritFaults(i int) []fault[abrasion] {
	other := ""
	if i > 0 {
		other = "coarse"
	}
	return slices.Concat(
		nameFaults(func(x *abrasion) *string { return &x.l[i].Name }, other),
		numberFaults(func(x *abrasion) *int { return &x.l[i].Damage }, 0, 1000000, api.ErrRange),
		numberFaults(func(x *abrasion) *int { return &x.l[i].Rate }, 1, 100000, api.ErrRange),
	)
}

func allGritFaults() []fault[abrasion] {
	large := []fault[abrasion]{{func(x *abrasion) { x.l = append(x.l, manyGrits(10)...) }, api.ErrLarge}}
	return slices.Concat(large, gritFaults(0), gritFaults(1), gritFaults(2))
}

func depthFaults() []fault[abrasion] {
	return slices.Concat(
		numberFaults(func(x *abrasion) *int { return &x.depths[0] }, 0, 1000000, api.ErrRange),
		numberFaults(func(x *abrasion) *int { return &x.depths[1] }, 0, 1000000, api.ErrRange),
	)
}

func TestP4_1Grits(t *testing.T) {
	checkFaults(t, validAbrasion, gritsError, allGritFaults())
	isValid := func(t *testing.T, x abrasion) api.Errno { return grind.CheckGrits(x.l) }
	checkLimits(t, validAbrasion, isValid, func(x *abrasion) *int { return &x.l[1].Damage }, 0, 1000000)
	checkLimits(t, validAbrasion, isValid, func(x *abrasion) *int { return &x.l[1].Rate }, 1, 100000)
	for n, want := range map[int]api.Errno{0: api.OK, 1: api.OK, 12: api.OK, 13: api.ErrLarge, 500: api.ErrLarge} {
		if e := grind.CheckGrits(manyGrits(n)); e != want {
			t.Error(n, e)
		}
	}
	for _, name := range names {
		l := []api.Grit{grit("y", 5, 1), grit(name, 5, 1)}
		if e := grind.CheckGrits(l); e != api.OK {
			t.Error(name, e)
		}
		if e := grind.CheckGrits(append(l, grit(name, -1, 0))); e != api.ErrExists {
			t.Error(name, e)
		}
	}
	// a name that is wrong twice is a wrong name first, and an earlier grit comes before
	if e := grind.CheckGrits([]api.Grit{grit("a", 1, 0), grit("", 1, 1)}); e != api.ErrRange {
		t.Error(e)
	}
	if e := grind.CheckGrits([]api.Grit{grit("a", 1, 1), grit("b", 1, 1), grit("b", 1, 1), grit("", 1, 1)}); e != api.ErrExists {
		t.Error(e)
	}
}

func TestP4_1StepMinutes(t *testing.T) {
	checkFaults(t, validAbrasion, stepError, slices.Concat(
		allGritFaults(),
		numberFaults(func(x *abrasion) *int { return &x.grit }, 0, 2, api.ErrMissing),
		numberFaults(func(x *abrasion) *int { return &x.depth }, 0, 1000000, api.ErrRange),
	))
	checkLimits(t, validAbrasion, stepError, func(x *abrasion) *int { return &x.grit }, 0, 2)
	checkLimits(t, validAbrasion, stepError, func(x *abrasion) *int { return &x.depth }, 0, 1000000)
	l := append(chapterGrits(), grit("slow", 0, 1), grit("quick", 1000000, 100000))
	for _, x := range []struct{ grit, depth, want int }{
		{1, 9000, 5}, {2, 9000, 23}, {0, 50000, 10}, {1, 20000, 10}, {2, 8000, 20}, {2, 20000, 50}, {1, 50000, 25}, {2, 50000, 125},
		{0, 0, 0}, {0, 1, 1}, {0, 4999, 1}, {0, 5000, 1}, {0, 5001, 2}, {3, 1000000, 1000000}, {4, 1000000, 10}, {4, 100001, 2},
	} {
		if n, e := grind.StepMinutes(l, x.grit, x.depth); n != x.want || e != api.OK {
			t.Error(x, n, e)
		}
	}
	if n, e := grind.StepMinutes(nil, 0, 0); n != 0 || e != api.ErrMissing {
		t.Error(n, e)
	}
}

func TestP4_1CheckSequence(t *testing.T) {
	itemFaults := func(i int) []fault[abrasion] {
		return numberFaults(func(x *abrasion) *int { return &x.sequence[i] }, 0, 2, api.ErrMissing)
	}
	repeat := fault[abrasion]{func(x *abrasion) { x.sequence[1] = 0 }, api.ErrOrder}
	checkFaults(t, validAbrasion, sequenceError, slices.Concat(
		allGritFaults(),
		depthFaults(),
		[]fault[abrasion]{{func(x *abrasion) { x.sequence = slices.Grow(x.sequence, 10)[:13] }, api.ErrLarge}},
		itemFaults(0),
		itemFaults(1), []fault[abrasion]{repeat},
		itemFaults(2), []fault[abrasion]{{func(x *abrasion) { x.sequence[2] = 1 }, api.ErrOrder}},
		[]fault[abrasion]{{func(x *abrasion) { x.depths[1] = 2999 }, api.ErrGap}},
	))
	for _, x := range []struct {
		sequence []int
		depths   [2]int
		minutes  int
		want     api.Errno
	}{
		{[]int{0, 1, 2}, [2]int{50000, 3000}, 40, api.OK},
		{[]int{0, 2}, [2]int{50000, 3000}, 60, api.OK},
		{[]int{1, 2}, [2]int{50000, 3000}, 45, api.OK},
		{[]int{2}, [2]int{50000, 3000}, 125, api.OK},
		{[]int{2}, [2]int{50000, 1000000}, 125, api.OK}, // more than is needed
		{[]int{1}, [2]int{9000, 8000}, 5, api.OK},
		{[]int{2}, [2]int{9000, 8000}, 23, api.OK},
		{[]int{0}, [2]int{20001, 20000}, 5, api.OK},
		{[]int{0}, [2]int{20000, 20000}, 0, api.ErrOrder}, // the same damage
		{[]int{0, 0}, [2]int{50000, 20000}, 0, api.ErrOrder},
		{[]int{1, 0}, [2]int{50000, 20000}, 0, api.ErrOrder},
		{[]int{0, 1}, [2]int{50000, 3000}, 0, api.ErrGap},
		{[]int{0, 1}, [2]int{50000, 7999}, 0, api.ErrGap},
		{[]int{1, 0, 3}, [2]int{50000, 20000}, 0, api.ErrOrder},
		{[]int{3, 1, 0}, [2]int{50000, 20000}, 0, api.ErrMissing},
		{nil, [2]int{50000, 3000}, 0, api.ErrGap},
		{nil, [2]int{3001, 3000}, 0, api.ErrGap},
		{nil, [2]int{3000, 3000}, 0, api.OK},
		{nil, [2]int{0, 0}, 0, api.OK},
		{[]int{}, [2]int{0, 1000000}, 0, api.OK},
		{[]int{2}, [2]int{0, 0}, 0, api.ErrOrder},
		{[]int{0, 1, 2, 2, 2, 2, 2, 2, 2, 2, 2, 2}, [2]int{50000, 3000}, 0, api.ErrOrder},
		{[]int{0, 1, 2, 2, 2, 2, 2, 2, 2, 2, 2, 2, 2}, [2]int{50000, 3000}, 0, api.ErrLarge},
	} {
		if n, e := grind.CheckSequence(chapterGrits(), x.sequence, x.depths); n != x.minutes || e != x.want {
			t.Error(x, n, e)
		}
	}
	all := []int{0, 1, 2, 3, 4, 5, 6, 7, 8, 9, 10, 11}
	want := 20000
	for i := 1; i < 12; i++ {
		want += (13000 - 1000*i + i) / (1 + i)
	}
	if n, e := grind.CheckSequence(manyGrits(12), all, [2]int{20000, 1000}); n != want || e != api.OK {
		t.Error(n, e, want)
	}
	if n, e := grind.CheckSequence(nil, nil, [2]int{5, 5}); n != 0 || e != api.OK {
		t.Error(n, e)
	}
}

func TestP4_1Shortest(t *testing.T) {
	checkFaults(t, validAbrasion, depthsError, slices.Concat(allGritFaults(), depthFaults()))
	alike := []api.Grit{grit("a", 100, 10), grit("b", 50, 10), grit("c", 100, 10), grit("d", 50, 10), grit("e", 80, 15)}
	for _, x := range []struct {
		l        []api.Grit
		depths   [2]int
		sequence []int
		minutes  int
		want     api.Errno
	}{
		{chapterGrits(), [2]int{50000, 3000}, []int{0, 1, 2}, 40, api.OK},
		{chapterGrits(), [2]int{9000, 8000}, []int{1}, 5, api.OK},
		{chapterGrits(), [2]int{8000, 7999}, []int{2}, 20, api.OK},
		{chapterGrits(), [2]int{50000, 2999}, nil, 0, api.ErrNone},
		{chapterGrits(), [2]int{3000, 2999}, nil, 0, api.ErrNone},
		{chapterGrits(), [2]int{2000, 2000}, nil, 0, api.OK},
		{chapterGrits(), [2]int{2000, 1000000}, nil, 0, api.OK},
		{chapterGrits(), [2]int{1000000, 1000000}, nil, 0, api.OK},
		{chapterGrits(), [2]int{1000000, 999999}, []int{0}, 200, api.OK},
		{nil, [2]int{0, 0}, nil, 0, api.OK},
		{nil, [2]int{1, 0}, nil, 0, api.ErrNone},
		{alike, [2]int{200, 100}, []int{4}, 14, api.OK},
		{alike, [2]int{200, 50}, []int{1}, 20, api.OK}, // as quick as 3, and 22 minutes with 4
		{alike[:4], [2]int{200, 100}, []int{0}, 20, api.OK},
		{alike[2:4], [2]int{200, 100}, []int{0}, 20, api.OK},
		{alike[1:4], [2]int{200, 100}, []int{0}, 20, api.OK}, // b before c, though it is finer than needed
		{[]api.Grit{grit("a", 10, 1), grit("b", 90, 10), grit("c", 90, 10)}, [2]int{100, 10}, []int{0}, 100, api.OK},
		{[]api.Grit{grit("a", 10, 1), grit("b", 80, 10), grit("c", 80, 10)}, [2]int{100, 10}, []int{1, 0}, 90, api.OK},
	} {
		s, n, e := grind.Shortest(x.l, x.depths)
		if !slices.Equal(s, x.sequence) || n != x.minutes || e != x.want {
			t.Error(x, s, n, e)
		}
	}
}

// someGrits have damages and rates that are often equal, so that there are several best sequences.
func someGrits(random *rand.Rand, most, width int) []api.Grit {
	var l []api.Grit
	for i := range random.IntN(most + 1) {
		l = append(l, grit("g"+strconv.Itoa(i), random.IntN(width), 1+random.IntN(width)))
	}
	return l
}

// sequencesOf yields all sequences for depths, with their minutes: each set of grits in the order of damage.
func sequencesOf(l []api.Grit, depths [2]int) func(yield func([]int, int) bool) {
	return func(yield func([]int, int) bool) {
		for set := range 1 << len(l) {
			var s []int
			for i := range l {
				if set>>i&1 == 1 {
					s = append(s, i)
				}
			}
			slices.SortStableFunc(s, func(i, j int) int { return l[j].Damage - l[i].Damage })
			minutes, damage, ok := 0, depths[0], true
			for _, i := range s {
				ok = ok && l[i].Damage < damage
				minutes += damage / l[i].Rate
				if damage%l[i].Rate != 0 {
					minutes++
				}
				damage = l[i].Damage
			}
			if ok && damage <= depths[1] && !yield(s, minutes) {
				return
			}
		}
	}
}

func TestP4_1ShortestOfAll(t *testing.T) {
	random := rand.New(rand.NewPCG(4, 1))
	found, several := 0, 0
	for range 6000 {
		l := someGrits(random, 9, []int{4, 8, 30}[random.IntN(3)])
		depths := [2]int{random.IntN(40), random.IntN(8)}
		var best []int
		least, count := -1, 0
		for s, minutes := range sequencesOf(l, depths) {
			isEqual := minutes == least
			if isEqual {
				count++
			}
			if least < 0 || minutes < least || isEqual && (len(s) < len(best) || len(s) == len(best) && slices.Compare(s, best) < 0) {
				if !isEqual {
					count = 1
				}
				best, least = s, minutes
			}
		}
		s, n, e := grind.Shortest(l, depths)
		if least < 0 {
			if s != nil || n != 0 || e != api.ErrNone {
				t.Fatal(l, depths, s, n, e)
			}
			continue
		}
		if !slices.Equal(s, best) || n != least || e != api.OK {
			t.Fatal(l, depths, s, n, e, best, least)
		}
		if len(s) > 0 {
			found++
		}
		if count > 1 {
			several++
		}
	}
	if found < 1000 || several < 300 {
		t.Error("too few of a kind", found, several)
	}
	if s, n, e := grind.Shortest(manyGrits(12), [2]int{1000000, 1000}); len(s) == 0 || n == 0 || e != api.OK {
		t.Error(s, n, e)
	}
}

func TestP4_8Sequences(t *testing.T) {
	random := rand.New(rand.NewPCG(4, 8))
	accepted := 0
	for range 4000 {
		l := someGrits(random, 7, 40)
		depths := [2]int{random.IntN(60), random.IntN(20)}
		s, n, e := grind.Shortest(l, depths)
		if e == api.OK {
			if m, e := grind.CheckSequence(l, s, depths); m != n || e != api.OK {
				t.Fatal(l, depths, s, n, m, e)
			}
		}
		for range 20 { // sequences of which many are wrong
			x := random.Perm(len(l))[:random.IntN(len(l)+1)]
			if random.IntN(4) > 0 {
				slices.SortFunc(x, func(i, j int) int { return l[j].Damage - l[i].Damage })
			}
			m, f := grind.CheckSequence(l, x, depths)
			isRight := false
			for y, minutes := range sequencesOf(l, depths) {
				isRight = isRight || slices.Equal(x, y) && minutes == m
			}
			if isRight != (f == api.OK) || f == api.OK && (e != api.OK || m < n) {
				t.Fatal(l, depths, s, n, e, x, m, f)
			}
			if f == api.OK {
				accepted++
			}
		}
		harder := [2]int{depths[0] + random.IntN(20), max(0, depths[1]-random.IntN(10))}
		if _, m, f := grind.Shortest(l, harder); f == api.OK && (e != api.OK || m < n) {
			t.Fatal(l, depths, n, e, harder, m, f)
		}
		// the same sequence takes no fewer minutes for more damage at first
		m, f := grind.CheckSequence(l, s, [2]int{harder[0], depths[1]})
		if e == api.OK && len(s) > 0 && (f != api.OK || m < n) {
			t.Fatal(l, depths, s, n, harder, m, f)
		}
	}
	if accepted < 2000 {
		t.Error("too few of a kind", accepted)
	}
}

package grind_test

import (
	"math"
	"math/rand/v2"
	"slices"
	"strings"
	"testing"

	"speculum/api"
	"speculum/grind"
)

// roomy is a copy of a list that has room behind it, where something would be noticed that is appended.
func roomy[T any](l []T) []T {
	return slices.Grow(slices.Clone(l), 9)
}

// memory is copies of all memory of a task's lists.
type memory struct {
	numbers  [][]int
	grits    []api.Grit
	names    []string
	sessions []api.GrindSession
}

func remember(x polish, g abrasion) memory {
	m := memory{grits: slices.Clone(g.l[:cap(g.l)]), sessions: slices.Clone(x.s[:cap(x.s)])}
	for _, l := range [][]int{x.d.Low, x.d.High, x.p.Minutes, x.w.Low, x.w.High, g.sequence} {
		m.numbers = append(m.numbers, slices.Clone(l[:cap(l)]))
	}
	for _, s := range x.l[:cap(x.l)] {
		m.numbers, m.names = append(m.numbers, slices.Clone(s.Wear[:cap(s.Wear)])), append(m.names, s.Name)
	}
	return m
}

func sameMemory(a, b memory) bool {
	return slices.EqualFunc(a.numbers, b.numbers, slices.Equal) && slices.Equal(a.grits, b.grits) && slices.Equal(a.names, b.names) && slices.Equal(a.sessions, b.sessions)
}

// wipe clears all memory of lists.
func wipe(lists ...[]int) {
	for _, l := range lists {
		clear(l[:cap(l)])
	}
}

// TestP1Arguments checks that nothing is written into arguments, and that results share no memory with them.
func TestP1Arguments(t *testing.T) {
	x, g := validPolish(), validAbrasion()
	x.l, x.s, x.d, x.p.Minutes = roomy(x.l), roomy(x.s), asked(roomy(x.d.Low), roomy(x.d.High)), roomy(x.p.Minutes)
	x.w.Low, x.w.High, g.l, g.sequence = roomy(x.w.Low), roomy(x.w.High), roomy(g.l), roomy(g.sequence)
	for i := range x.l {
		x.l[i].Wear = roomy(x.l[i].Wear)
	}
	never := asked(roomy([]int{12, 0, 12}), roomy([]int{20, 5, 20}))
	before := remember(x, g)
	for range 2 { // again, as results depend on the arguments only
		if e := agree(t, gritsError(t, g), strokesError(t, x)); e != api.OK {
			t.Error(e)
		}
		sequence, _, _ := grind.Shortest(g.l, g.depths)
		wear, _ := grind.WearOf(x.l, x.s, x.mirror)
		left, _ := grind.LeftFor(x.l, x.d, x.s, x.mirror)
		more, _ := grind.AddSession(x.l, x.d, x.s, x.more)
		ranges, _ := grind.WearBy(x.l, x.p)
		if !slices.Equal(sequence, []int{0, 1, 2}) || !slices.Equal(wear, []int{14, 10, 9}) || len(more) != 4 || len(ranges) != 3 {
			t.Error(sequence, wear, more, ranges)
		}
		wipe(left.Low)
		if !slices.Equal(left.High, []int{6, 10, 11}) {
			t.Error("shared", left)
		}
		wipe(sequence, wear, left.High)
		clear(more[:cap(more)])
		clear(ranges)
		for _, d := range []api.GrindDemand{x.d, never} {
			answer, e := grind.Plan(x.l, d)
			minutes, high := slices.Clone(answer.Plan.Minutes), slices.Clone(answer.Weights.High)
			wipe(answer.Weights.Low)
			if !slices.Equal(answer.Plan.Minutes, minutes) || !slices.Equal(answer.Weights.High, high) || (e == api.OK) != (len(minutes) > 0) {
				t.Error("shared", answer, e)
			}
			wipe(answer.Weights.High, answer.Plan.Minutes)
		}
	}
	if !sameMemory(before, remember(x, g)) || !sameDemand(never, asked([]int{12, 0, 12}, []int{20, 5, 20})) {
		t.Error("written into an argument")
	}
	first, _, _ := grind.Parse(chapterText)
	wipe(first[0].Wear)
	if !slices.Equal(first[1].Wear, []int{4, 2, 1}) {
		t.Error("shared", first)
	}
	clear(first[:cap(first)])
	if second, _, _ := grind.Parse(chapterText); !sameStrokes(second, chapterStrokes()) {
		t.Error(second)
	}
}

// TestP1AllArguments calls all functions with arguments of all kinds: they return.
func TestP1AllArguments(t *testing.T) {
	random := rand.New(rand.NewPCG(1, 4))
	numbers := []int{math.MinInt, math.MinInt + 1, -1000001, -2, -1, 0, 1, 2, 3, 30, 100, 10000, 1000000000, 1000000001, math.MaxInt / 3, math.MaxInt - 1, math.MaxInt}
	n := func() int { return numbers[random.IntN(len(numbers))] }
	few := func() int { return []int{0, 1, 2, 3, 13, 41, 201}[random.IntN(7)] }
	word := func() string { return append(names, badNames...)[random.IntN(len(names)+len(badNames))] }
	list := func() []int {
		var l []int
		for range few() {
			l = append(l, n())
		}
		return l
	}
	for range 3000 {
		g := abrasion{grit: n(), depth: n(), sequence: list(), depths: [2]int{n(), n()}}
		x := polish{d: asked(list(), list()), more: session(word(), word(), n()), mirror: word(), p: plan(n(), list()...), w: weights(n(), list(), list())}
		for range few() {
			g.l = append(g.l, grit(word(), n(), n()))
			x.l = append(x.l, stroke(word(), list()...))
			x.s = append(x.s, session(word(), word(), n()))
		}
		for _, l := range [][]api.Grit{g.l, chapterGrits()} {
			g.l = l
			stepError(t, g)
			sequenceError(t, g)
			grind.CheckGrits(l)
			grind.Shortest(l, g.depths)
		}
		valid := validPolish()
		for _, l := range [][]api.Stroke{x.l, valid.l, valid.l[:1]} {
			x.l = l
			callStrokes(t, x)
			y := valid
			y.l, y.p, y.w = l, x.p, x.w
			callStrokes(t, y)
		}
		text := grind.FormatSession(x.more)
		grind.ParseSession(text)
		grind.Parse(strings.Join([]string{"stroke", text, word(), "\n"}, " "))
	}
}

// callStrokes calls all functions of strokes.
func callStrokes(t *testing.T, x polish) {
	t.Helper()
	grind.CheckStrokes(x.l)
	grind.CheckDemand(x.l, x.d)
	grind.CheckSessions(x.l, x.s)
	grind.WearOf(x.l, x.s, x.mirror)
	moreError(t, x)
	leftError(t, x)
	grind.WearBy(x.l, x.p)
	rightError(t, x)
	proofError(t, x)
	refusalError(t, x)
	compareError(t, x)
	grind.Plan(x.l, x.d)
	grind.Print(x.l)
}

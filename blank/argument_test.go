package blank_test

import (
	"math"
	"math/rand/v2"
	"slices"
	"strings"
	"testing"

	"speculum/api"
	"speculum/blank"
)

// roomy is a copy of a list that has room behind it, where something would be noticed that is appended.
func roomy[T any](l []T) []T {
	return slices.Grow(slices.Clone(l), 9)
}

// whole is all of the memory of a list.
func whole[T any](l []T) []T {
	return slices.Clone(l[:cap(l)])
}

// TestP1Arguments checks that nothing is written into arguments, and that results share no memory with them.
func TestP1Arguments(t *testing.T) {
	g := rich()
	g.Parts, g.Caps = roomy(g.Parts), roomy(g.Caps)
	x := smallStore()
	x.batches, x.promises = roomy(x.batches), roomy(x.promises)
	d := validDemand()
	d.a.Steps, d.a.Windows, d.times, d.circle = roomy(d.a.Steps), roomy(d.a.Windows), roomy(d.times), roomy(d.circle)
	parts, caps, batches, promises := whole(g.Parts), whole(g.Caps), whole(x.batches), whole(x.promises)
	steps, windows, times, circle := whole(d.a.Steps), whole(d.a.Windows), whole(d.times), whole(d.circle)
	for range 2 { // again, as results depend on the arguments only
		if e := agree(t, glassError(t, g), batchesError(t, x), demandError(t, d)); e != api.OK {
			t.Error(e)
		}
		left, _ := blank.LeftOf(x.batches, x.promises)
		more, _ := blank.AddPromise(x.batches, x.promises, x.more)
		bounds, _ := blank.CoolSystem(d.a)
		earliest, _, _ := blank.Earliest(d.a)
		if !slices.Equal(left, []int{1, 1, 1, 0}) || len(more) != 3 || len(bounds) != 13 || !slices.Equal(earliest, []int{0, 180, 230}) {
			t.Error(left, more, bounds, earliest)
		}
		clear(left)
		clear(more)
		clear(bounds)
		clear(earliest)
	}
	if !slices.Equal(parts, whole(g.Parts)) || !slices.Equal(caps, whole(g.Caps)) ||
		!slices.Equal(batches, whole(x.batches)) || !slices.Equal(promises, whole(x.promises)) ||
		!slices.Equal(steps, whole(d.a.Steps)) || !slices.Equal(windows, whole(d.a.Windows)) ||
		!slices.Equal(times, whole(d.times)) || !slices.Equal(circle, whole(d.circle)) {
		t.Error("written into an argument")
	}
	first, _, _ := blank.Parse(richText)
	clear(first.Parts[:cap(first.Parts)])
	clear(first.Caps[:cap(first.Caps)])
	if second, _, _ := blank.Parse(richText); !same(second, rich()) {
		t.Error(second)
	}
}

// TestP1AllArguments calls all functions with arguments of all kinds: they return.
func TestP1AllArguments(t *testing.T) {
	random := rand.New(rand.NewPCG(1, 3))
	numbers := []int{math.MinInt, math.MinInt + 1, -1000001, -2, -1, 0, 1, 2, 3, 30, 500, 1000, 100001, math.MaxInt / 3, math.MaxInt - 1, math.MaxInt}
	n := func() int { return numbers[random.IntN(len(numbers))] }
	few := func() int { return []int{0, 1, 2, 5, 31, 61, 201}[random.IntN(7)] }
	word := func() string { return append(names, badNames...)[random.IntN(len(names)+len(badNames))] }
	for range 3000 {
		g := api.Glass{Density: n(), Thick: n()}
		for range few() {
			g.Parts = append(g.Parts, api.GlassPart{Outer: n(), Inner: n(), From: n(), To: n(), Count: n(), Cut: random.IntN(2) == 0})
			g.Caps = append(g.Caps, api.GlassCap{Radius: n(), Height: n(), At: n(), Up: random.IntN(2) == 0, Cut: random.IntN(2) == 0})
		}
		x := store{more: promise(word(), word()), want: [2]int{n(), n()}}
		for range few() {
			x.batches = append(x.batches, batch(word(), n(), n(), n()))
			x.promises = append(x.promises, promise(word(), word()))
		}
		d := demand{a: api.Annealing{Thick: n(), Factor: n()}, step: n(), minutes: n()}
		for range few() {
			d.a.Steps = append(d.a.Steps, api.CoolStep{Drop: n(), Limit: n(), Most: n()})
			d.a.Windows = append(d.a.Windows, window(n(), n(), n()))
			d.times, d.circle = append(d.times, n()), append(d.circle, n())
		}
		glassError(t, g)
		callStock(x)
		for _, a := range []api.Annealing{d.a, cooling()} {
			d.a = a
			stressError(t, d)
			timesError(t, d)
			blank.CoolSystem(a)
			blank.Earliest(a)
			blank.CheckCircle(a, d.circle)
		}
		text := blank.FormatPromise(x.more)
		blank.ParsePromise(text)
		blank.Parse(strings.Join([]string{"glass", text, word(), "\n"}, " "))
	}
}

// callStock calls all functions of a stock.
func callStock(x store) {
	blank.CheckBatches(x.batches)
	blank.CheckPromises(x.batches, x.promises)
	blank.AddPromise(x.batches, x.promises, x.more)
	blank.LeftOf(x.batches, x.promises)
	blank.FirstBatch(x.batches, x.promises, x.want)
}

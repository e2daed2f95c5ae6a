package coat_test

import (
	"math"
	"math/rand/v2"
	"slices"
	"strings"
	"testing"

	"speculum/api"
	"speculum/coat"
)

// roomy is a copy of a list that has room behind it, where something would be noticed that is appended.
func roomy[T any](l []T) []T {
	return slices.Grow(slices.Clone(l), 9)
}

// kept is the check that all of the memory of a list is as it was.
func kept[T comparable](t *testing.T, l []T) func() {
	before := slices.Clone(l[:cap(l)])
	return func() {
		t.Helper()
		if !slices.Equal(before, l[:cap(l)]) {
			t.Error("written into an argument", before, l[:cap(l)])
		}
	}
}

// wipe clears all of the memory of a result.
func wipe[T any](l []T) {
	clear(l[:cap(l)])
}

// TestP1Arguments checks that nothing is written into arguments, and that results share no memory with them.
func TestP1Arguments(t *testing.T) {
	x, m, b, c := validRecipe(), validMasking(), validBand(), validCareer()
	x.l, x.r = roomy(x.l), roomy(x.r)
	m.mask, m.rates, m.wants = roomy(m.mask), roomy(m.rates), roomy(m.wants)
	b.l, c.l = roomy(b.l), roomy(c.l)
	checks := []func(){kept(t, x.l), kept(t, x.r), kept(t, m.mask), kept(t, m.rates), kept(t, m.wants), kept(t, b.l), kept(t, c.l)}
	for i := range b.chain {
		b.chain[i] = roomy(b.chain[i])
		checks = append(checks, kept(t, b.chain[i]))
	}
	for range 2 { // again, as results depend on the arguments only
		e := agree(t, materialsError(t, x), printError(t, x), maskError(t, m), throughError(t, m), maskForError(t, m), curveError(t, b), chainError(t, b), careerError(t, c))
		if e != api.OK {
			t.Error(e)
		}
		zones, _ := coat.Through(m.t, m.mask)
		mask, _ := coat.MaskFor(m.rates, m.wants)
		all, _ := coat.MaskFor(m.wants, m.wants)
		next, _ := coat.Next(c.a, c.l, c.x)
		first, _ := coat.Next(c.a, c.l[:0], c.l[0])
		allowed, _ := coat.Allowed(c.a, c.l, c.day)
		parsed, _, _ := coat.Parse("layer al 100\nlayer ag 7\nlayer al 1\n")
		if !slices.Equal(zones, []api.Range{span(9000, 11110), span(2997, 3700), span(0, 0)}) || !slices.Equal(mask, []int{1000, 500, 666}) || !slices.Equal(all, []int{1000, 1000, 1000}) {
			t.Error(zones, mask, all)
		}
		if len(next) != 5 || !slices.Equal(next[:4], c.l) || next[4] != c.x || !slices.Equal(first, c.l[:1]) || !slices.Equal(allowed, []int{2}) || !slices.Equal(parsed, x.r) {
			t.Error(next, first, allowed, parsed)
		}
		wipe(zones)
		wipe(mask)
		wipe(all)
		wipe(next)
		wipe(first)
		wipe(allowed)
		wipe(parsed)
	}
	for _, check := range checks {
		check()
	}
}

// TestP1AllArguments calls all functions with arguments of all kinds: they return.
func TestP1AllArguments(t *testing.T) {
	random := rand.New(rand.NewPCG(1, 8))
	numbers := []int{math.MinInt, math.MinInt + 1, -1000000000000001, -1000000, -2, -1, 0, 1, 2, 3, 100, 500, 999, 1000, 1001, 100000, 1000000, 1000000000000000, math.MaxInt / 3, math.MaxInt - 1, math.MaxInt}
	n := func() int { return numbers[random.IntN(len(numbers))] }
	r := func() api.Range { return span(n(), n()) }
	few := func() int { return []int{0, 1, 2, 3, 4, 10, 11, 40, 41, 60, 61}[random.IntN(11)] }
	word := func() string {
		return append([]string{"a", "b", "al", "m"}, badNames...)[random.IntN(4+random.IntN(len(badNames)))]
	}
	for range 3000 {
		x, m, b := recipe{material: word(), want: r()}, masking{t: r()}, band{wave: n(), from: n(), to: n()}
		c := career{a: api.Aging{Fresh: r(), Loss: r(), Back: r(), Washes: n()}, x: event(word(), n(), n()), day: n(), least: n()}
		for range few() {
			x.l, x.r = append(x.l, api.Material{Name: word(), PerCount: r()}), append(x.r, layer(word(), n()))
			m.mask, m.rates, m.wants = append(m.mask, n()), append(m.rates, n()), append(m.wants, n())
			b.l, c.l = append(b.l, api.Reflect{Wave: n(), Share: r()}), append(c.l, event(word(), n(), n()))
		}
		for range few() {
			b.chain = append(b.chain, b.l)
		}
		callAll(x, m, b, c)
		x.l, m.t, c.a, c.day = validRecipe().l, validMasking().t, someAging(random), 700
		callAll(x, m, b, c)
		b.l, c.l = someCurve(random, 2+random.IntN(59), 1600), someHistory(random, c.a, 40, 3000)
		b.chain = append(b.chain, b.l)
		callAll(x, m, b, c)
		coat.Parse(strings.Repeat(strings.Join([]string{"layer", word(), "1\n"}, " "), few()))
		coat.ParseCoating(strings.Join([]string{word(), word(), word()}, " "))
		coat.FormatCoating(c.x)
	}
}

// callAll calls all functions of recipes, masks, tables and histories.
func callAll(x recipe, m masking, b band, c career) {
	coat.CheckMaterials(x.l)
	coat.CheckRecipe(x.l, x.r)
	coat.Total(x.l, x.r)
	coat.CountsFor(x.l, x.material, x.want)
	coat.Print(x.r)
	if len(x.r) > 0 {
		coat.Thickness(x.l, x.r[0])
	}
	coat.CheckMask(m.mask)
	coat.Through(m.t, m.mask)
	coat.MaskFor(m.rates, m.wants)
	coat.CheckCurve(b.l)
	coat.At(b.l, b.wave)
	coat.Least(b.l, b.from, b.to)
	coat.Chain(b.chain, b.wave)
	coat.CheckAging(c.a)
	coat.CheckHistory(c.a, c.l)
	coat.Next(c.a, c.l, c.x)
	coat.Allowed(c.a, c.l, c.day)
	coat.StateOn(c.a, c.l, c.day)
	coat.Bright(c.a, c.l, c.day)
	coat.DueDays(c.a, c.l, c.least)
}

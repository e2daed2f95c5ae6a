package shop_test

import (
	"math"
	"reflect"
	"slices"
	"strings"
	"testing"

	"speculum/api"
	"speculum/shop"
)

func span(lo, hi int) api.Range { return api.Range{Lo: lo, Hi: hi} }

// chapterShop is the shop of the chapter's examples.
func chapterShop() api.Shop {
	return api.Shop{
		Batches: []api.GlassBatch{{Name: "b", Diameter: 200, Thick: 30, Count: 1}},
		Strokes: []api.Stroke{{Name: "s", Wear: []int{10}}},
		Demand:  api.GrindDemand{Low: []int{0}, High: []int{100}},
		Zones:   1,
		Key:     7,
	}
}

// fullShop is a shop with several things of each kind.
func fullShop() api.Shop {
	return api.Shop{
		Batches: []api.GlassBatch{{Name: "b", Diameter: 200, Thick: 30, Count: 2}, {Name: "c", Diameter: 300, Thick: 40, Count: 60}},
		Strokes: []api.Stroke{{Name: "s", Wear: []int{10, 0}}, {Name: "t", Wear: []int{1, 5}}},
		Demand:  api.GrindDemand{Low: []int{5, 5}, High: []int{100, 60}},
		Zones:   3,
		Aging:   api.Aging{Fresh: span(900, 910), Loss: span(20, 30), Back: span(10, 20), Washes: 1},
		Key:     7,
	}
}

// fullFacts is facts of which each kind has some, with a mirror that is delivered.
func fullFacts() []string {
	return []string{
		"order m1 ann 30 50000 1000",
		"promise m1 b",
		"order m2 bob 60 70000 0",
		"session m1 s 4",
		"session m2 t 3",
		"reading m1 0 1 5 9",
		"reading m2 1 2 -20 0",
		"coat m1 5 0",
		"sign m1 eve",
		"promise m2 c",
		"reading m1 1 2 -7 8",
		"session m1 t 2",
		"coat m2 6 0",
		"coat m1 9 1",
		"sign m1 sam",
		"deliver m1 40",
		"sign m2 eve",
	}
}

// visit is the arguments of all functions with a shop, of which valid ones are accepted.
type visit struct {
	x      api.Shop
	facts  []string
	text   string // a fact
	mirror string
}

func validVisit() visit {
	return visit{fullShop(), fullFacts(), "session m2 s 1", "m1"}
}

func isZero(x any) bool { return reflect.ValueOf(x).IsZero() }

// factsError is the error that all functions with a shop have but those that have another one of a fact or a mirror.
func factsError(t *testing.T, v visit) api.Errno {
	t.Helper()
	s, n, e := shop.StateOf(v.x, v.facts)
	none(t, e, isZero(s))
	if e == api.OK && n != len(v.facts) {
		t.Error("not the number of facts", n)
	}
	earned, e2 := shop.Earned(v.x, v.facts)
	none(t, e2, earned == 0)
	server, e3 := shop.NewServer(v.x, v.facts)
	none(t, e3, server == nil)
	if e3 == api.OK && !slices.Equal(server.Facts(), v.facts) {
		t.Error("not the facts", server.Facts())
	}
	facts, out := shop.Do(v.x, v.facts, "earned")
	if e != api.OK && (facts != nil || out != errorText(e)) {
		t.Error(facts, out)
	}
	return agree(t, e, e2, e3)
}

func acceptError(t *testing.T, v visit) api.Errno {
	t.Helper()
	l, e := shop.Accept(v.x, v.facts, v.text)
	none(t, e, l == nil)
	if e == api.OK && !slices.Equal(l, append(slices.Clone(v.facts), v.text)) {
		t.Error("not the facts and one more", l)
	}
	return e
}

// mirrorError is the error of functions that need an order of the mirror.
func mirrorError(t *testing.T, v visit) api.Errno {
	t.Helper()
	l, e := shop.Certificates(v.x, v.facts, v.mirror)
	none(t, e, l == nil)
	r, e2 := shop.Signed(v.x, v.facts, v.mirror)
	none(t, e2, r == nil)
	card, e3 := shop.Card(v.x, v.facts, v.mirror)
	none(t, e3, card == "")
	return agree(t, e, e2, e3)
}

func paymentError(t *testing.T, v visit) api.Errno {
	t.Helper()
	n, e := shop.Payment(v.x, v.facts, v.mirror)
	none(t, e, n == 0)
	return e
}

// visitError is the error of all functions with a shop, if the mirror and the text are valid.
func visitError(t *testing.T, v visit) api.Errno {
	t.Helper()
	return agree(t, factsError(t, v), acceptError(t, v), mirrorError(t, v), paymentError(t, v))
}

func shopError(t *testing.T, v visit) api.Errno {
	t.Helper()
	e := shop.CheckShop(v.x)
	if e != api.OK {
		if _, n, e2 := shop.StateOf(v.x, v.facts); n != 0 || e2 != e {
			t.Error("a number beside the error of a shop", n, e2)
		}
		return agree(t, e, visitError(t, v))
	}
	return e
}

// rangeFaults are the faults of a range that is to be from 0 to 1000.
func rangeFaults(field func(v *visit) *api.Range) []fault[visit] {
	var l []fault[visit]
	for _, r := range []api.Range{span(-1, 5), span(5, 4), span(0, 1001), span(1001, 1001), span(math.MinInt, math.MaxInt), span(math.MaxInt, math.MinInt)} {
		l = append(l, fault[visit]{func(v *visit) { *field(v) = r }, api.ErrRange})
	}
	return l
}

// partFaults are the faults of batches, strokes and the demand: some of each error, as the other chapters have them.
func partFaults() []fault[visit] {
	return []fault[visit]{
		{func(v *visit) { v.x.Batches = make([]api.GlassBatch, 41) }, api.ErrLarge},
		{func(v *visit) { v.x.Batches[0].Name = "1" }, api.ErrName},
		{func(v *visit) { v.x.Batches[0].Diameter = 1001 }, api.ErrRange},
		{func(v *visit) { v.x.Batches[1].Name = "b" }, api.ErrExists},
		{func(v *visit) { v.x.Batches[1].Thick = 0 }, api.ErrRange},
		{func(v *visit) { v.x.Batches[1].Count = -1 }, api.ErrRange},
		{func(v *visit) { v.x.Strokes = nil }, api.ErrShape},
		{func(v *visit) { v.x.Strokes = make([]api.Stroke, 13) }, api.ErrLarge},
		{func(v *visit) { v.x.Strokes[0].Name = "" }, api.ErrName},
		{func(v *visit) { v.x.Strokes[1].Name = "s" }, api.ErrExists},
		{func(v *visit) { v.x.Strokes[1].Wear = []int{1} }, api.ErrShape},
		{func(v *visit) { v.x.Strokes[1].Wear = []int{1, 101} }, api.ErrRange},
		{func(v *visit) { v.x.Demand.Low = []int{5} }, api.ErrShape},
		{func(v *visit) { v.x.Demand.High = nil }, api.ErrShape},
		{func(v *visit) { v.x.Demand.Low = []int{-1, 5} }, api.ErrRange},
		{func(v *visit) { v.x.Demand.High = []int{4, 60} }, api.ErrOrder},
		{func(v *visit) { v.x.Demand.High = []int{100, 10001} }, api.ErrRange},
	}
}

func shopFaults() []fault[visit] {
	faults := append(partFaults(), numberFaults(func(v *visit) *int { return &v.x.Zones }, 1, 40, api.ErrRange)...)
	faults = append(faults, rangeFaults(func(v *visit) *api.Range { return &v.x.Aging.Fresh })...)
	faults = append(faults, rangeFaults(func(v *visit) *api.Range { return &v.x.Aging.Loss })...)
	faults = append(faults, rangeFaults(func(v *visit) *api.Range { return &v.x.Aging.Back })...)
	faults = append(faults, numberFaults(func(v *visit) *int { return &v.x.Aging.Washes }, 0, 100, api.ErrRange)...)
	return append(faults, numberFaults(func(v *visit) *int { return &v.x.Key }, 1, 999999936, api.ErrRange)...)
}

func TestP10_1ShopFaults(t *testing.T) {
	checkFaults(t, validVisit, shopError, shopFaults())
	checkLimits(t, validVisit, shopError, func(v *visit) *int { return &v.x.Zones }, 1, 40)
	checkLimits(t, validVisit, shopError, func(v *visit) *int { return &v.x.Key }, 1, 999999936)
	checkLimits(t, validVisit, shopError, func(v *visit) *int { return &v.x.Aging.Washes }, 0, 100)
	for _, x := range []api.Shop{chapterShop(), fullShop()} {
		if e := shop.CheckShop(x); e != api.OK {
			t.Error(x, e)
		}
	}
	x := chapterShop()
	x.Batches = nil // a stock may be empty
	if e := shop.CheckShop(x); e != api.OK {
		t.Error(e)
	}
}

// TestP10_2FactsFaults checks the errors of facts behind those of the shop, in all functions that have both.
func TestP10_2FactsFaults(t *testing.T) {
	faults := append(shopFaults(),
		fault[visit]{func(v *visit) { v.facts = make([]string, 201) }, api.ErrLarge},
		fault[visit]{func(v *visit) { v.facts = slices.Repeat([]string{"order m1 ann 30 50000 1000"}, 201) }, api.ErrLarge},
		fault[visit]{func(v *visit) { v.facts[0] = "" }, api.ErrSyntax},
		fault[visit]{func(v *visit) { v.facts[0] = "order  ann 30 50000 1000" }, api.ErrName},
		fault[visit]{func(v *visit) { v.facts[0] = "order m1 ann 100001 50000 1000" }, api.ErrRange},
		fault[visit]{func(v *visit) { v.facts[1] = "promise m3 b" }, api.ErrMissing},
		fault[visit]{func(v *visit) { v.facts[2] = v.facts[0] }, api.ErrExists},
		fault[visit]{func(v *visit) { v.facts[3] = "paint m1" }, api.ErrKind},
		fault[visit]{func(v *visit) { v.facts[4] = "session m2 t 13" }, api.ErrBreak},
		fault[visit]{func(v *visit) { v.facts[8] = "deliver m1 3" }, api.ErrState},
		fault[visit]{func(v *visit) { v.facts[10] = "reading m1 1 0 -4 8" }, api.ErrClash},
		fault[visit]{func(v *visit) { v.facts[13] = "coat m1 4 1" }, api.ErrOrder},
		fault[visit]{func(v *visit) { v.facts[16] = "sign m1 eve" }, api.ErrLate},
	)
	checkFaults(t, validVisit, visitError, faults)
}

func errorText(e api.Errno) string {
	return "error " + strings.Fields("0 1 2 3 4 5 6 7 8 9 10 11 12 13 14 15 16 17 18 19 20 21 22 23 24 25 26")[e]
}

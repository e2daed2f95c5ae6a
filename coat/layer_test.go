package coat_test

import (
	"math"
	"math/rand/v2"
	"slices"
	"strconv"
	"testing"

	"speculum/api"
	"speculum/coat"
)

// recipe is the arguments of all functions of materials, of which valid ones are accepted.
type recipe struct {
	l        []api.Material
	r        []api.CoatLayer
	material string
	want     api.Range
}

func span(lo, hi int) api.Range { return api.Range{Lo: lo, Hi: hi} }

func material(name string, lo, hi int) api.Material {
	return api.Material{Name: name, PerCount: span(lo, hi)}
}

func layer(name string, counts int) api.CoatLayer {
	return api.CoatLayer{Material: name, Counts: counts}
}

func validRecipe() recipe {
	return recipe{
		l:        []api.Material{material("al", 90, 110), material("si", 1, 1000000), material("ag", 50, 50)},
		r:        []api.CoatLayer{layer("al", 100), layer("ag", 7), layer("al", 1)},
		material: "al",
		want:     span(9000, 12000),
	}
}

// thicknessError is the error of Thickness for the first layer.
func thicknessError(t *testing.T, x recipe) api.Errno {
	t.Helper()
	r, e := coat.Thickness(x.l, x.r[0])
	none(t, e, r == api.Range{})
	return e
}

func totalError(t *testing.T, x recipe) api.Errno {
	t.Helper()
	r, e := coat.Total(x.l, x.r)
	none(t, e, r == api.Range{})
	return agree(t, e, coat.CheckRecipe(x.l, x.r))
}

func countsError(t *testing.T, x recipe) api.Errno {
	t.Helper()
	n, e := coat.CountsFor(x.l, x.material, x.want)
	none(t, e, n == [2]int{})
	return e
}

// materialsError is the error of all functions of materials, if the other arguments are valid.
func materialsError(t *testing.T, x recipe) api.Errno {
	t.Helper()
	return agree(t, coat.CheckMaterials(x.l), thicknessError(t, x), totalError(t, x), countsError(t, x))
}

// rangeFaults are the faults of a range that is to lie between least and most.
func rangeFaults[T any](field func(x *T) *api.Range, least, most int) []fault[T] {
	var l []fault[T]
	for _, r := range []api.Range{
		{Lo: least - 1, Hi: most}, {Lo: least, Hi: most + 1}, {Lo: most, Hi: most - 1}, {Lo: least + 1, Hi: least}, {Lo: least - 2, Hi: least - 1}, {Lo: most + 1, Hi: most + 1},
		{Lo: math.MinInt, Hi: most}, {Lo: least, Hi: math.MaxInt}, {Lo: math.MinInt, Hi: math.MaxInt}, {Lo: math.MaxInt, Hi: math.MinInt},
	} {
		l = append(l, fault[T]{func(x *T) { *field(x) = r }, api.ErrRange})
	}
	return l
}

// materialFaults are the faults of three materials.
func materialFaults() []fault[recipe] {
	faults := []fault[recipe]{
		{func(x *recipe) { x.l = make([]api.Material, 41) }, api.ErrLarge},
		{func(x *recipe) { x.l = manyMaterials(41) }, api.ErrLarge},
	}
	for i := range 3 {
		faults = append(faults, nameFaults(func(x *recipe) *string { return &x.l[i].Name }, "")...)
		for other := range i {
			faults = append(faults, fault[recipe]{func(x *recipe) { x.l[i].Name = x.l[other].Name }, api.ErrExists})
		}
		faults = append(faults, rangeFaults(func(x *recipe) *api.Range { return &x.l[i].PerCount }, 1, 1000000)...)
	}
	return faults
}

// manyMaterials are materials m0, m1, ..
func manyMaterials(n int) []api.Material {
	var l []api.Material
	for i := range n {
		l = append(l, material("m"+strconv.Itoa(i), i+1, i+2))
	}
	return l
}

// layerFaults are the faults of the layer i.
func layerFaults(i int) []fault[recipe] {
	var faults []fault[recipe]
	for _, name := range []string{"", "a", "l", "AL", "al ", " al", "all", "si2", "1", "\xe4"} {
		faults = append(faults, fault[recipe]{func(x *recipe) { x.r[i].Material = name }, api.ErrMissing})
	}
	return append(faults, numberFaults(func(x *recipe) *int { return &x.r[i].Counts }, 1, 100000, api.ErrRange)...)
}

func TestP8_1MaterialFaults(t *testing.T) {
	checkFaults(t, validRecipe, materialsError, materialFaults())
	for _, r := range []api.Range{span(1, 1), span(1, 1000000), span(1000000, 1000000), span(999999, 1000000)} {
		if e := coat.CheckMaterials([]api.Material{{Name: "a", PerCount: r}}); e != api.OK {
			t.Error(r, e)
		}
	}
	for _, name := range names {
		if e := coat.CheckMaterials([]api.Material{material(name, 1, 2)}); e != api.OK {
			t.Error(name, e)
		}
	}
	for _, l := range [][]api.Material{nil, {}, manyMaterials(40)} {
		if e := coat.CheckMaterials(l); e != api.OK {
			t.Error(l, e)
		}
	}
	if e := coat.CheckMaterials([]api.Material{material("a", 1, 1), material("A", 1, 1)}); e != api.OK {
		t.Error(e)
	}
}

func TestP8_1LayerFaults(t *testing.T) {
	faults := append(materialFaults(),
		fault[recipe]{func(x *recipe) { x.r = make([]api.CoatLayer, 41) }, api.ErrLarge},
		fault[recipe]{func(x *recipe) { x.r = slices.Repeat([]api.CoatLayer{layer("al", 1)}, 41) }, api.ErrLarge},
	)
	for i := range 3 {
		faults = append(faults, layerFaults(i)...)
		checkLimits(t, validRecipe, totalError, func(x *recipe) *int { return &x.r[i].Counts }, 1, 100000)
	}
	checkFaults(t, validRecipe, totalError, faults)
	checkFaults(t, validRecipe, thicknessError, append(materialFaults(), layerFaults(0)...))
	checkLimits(t, validRecipe, thicknessError, func(x *recipe) *int { return &x.r[0].Counts }, 1, 100000)
	if e := coat.CheckRecipe(nil, []api.CoatLayer{{}}); e != api.ErrMissing {
		t.Error(e)
	}
	if e := coat.CheckRecipe(nil, nil); e != api.OK {
		t.Error(e)
	}
}

func TestP8_1Thickness(t *testing.T) {
	l := validRecipe().l
	for _, c := range []struct {
		x    api.CoatLayer
		want api.Range
	}{
		{layer("al", 100), span(9000, 11110)},
		{layer("al", 1), span(90, 220)},
		{layer("ag", 1), span(50, 100)},
		{layer("ag", 100000), span(5000000, 5000050)},
		{layer("si", 100000), span(100000, 100001000000)},
	} {
		if r, e := coat.Thickness(l, c.x); r != c.want || e != api.OK {
			t.Error(c, r, e)
		}
	}
}

func TestP8_1Total(t *testing.T) {
	x := validRecipe()
	if r, e := coat.Total(x.l, x.r); r != span(9000+350+90, 11110+400+220) || e != api.OK {
		t.Error(r, e)
	}
	for _, l := range [][]api.Material{x.l, nil} {
		if r, e := coat.Total(l, nil); r != span(0, 0) || e != api.OK {
			t.Error(r, e)
		}
	}
	thickest := slices.Repeat([]api.CoatLayer{layer("a", 100000)}, 40)
	if r, e := coat.Total([]api.Material{material("a", 1000000, 1000000)}, thickest); r != span(4000000000000, 4000040000000) || e != api.OK {
		t.Error(r, e)
	}
}

// TestP8_1TotalIsASum checks that the total is the sum of the thicknesses, whatever the order of the materials.
func TestP8_1TotalIsASum(t *testing.T) {
	random := rand.New(rand.NewPCG(8, 1))
	for range 2000 {
		l, r := someRecipe(random)
		var sum api.Range
		for _, x := range r {
			one, e := coat.Thickness(l, x)
			if e != api.OK {
				t.Fatal(l, x, e)
			}
			sum.Lo, sum.Hi = sum.Lo+one.Lo, sum.Hi+one.Hi
		}
		for range 2 {
			if total, e := coat.Total(l, r); total != sum || e != api.OK {
				t.Fatal(l, r, total, e, sum)
			}
			slices.Reverse(l)
		}
	}
}

func someRecipe(random *rand.Rand) ([]api.Material, []api.CoatLayer) {
	l := manyMaterials(1 + random.IntN(40))
	for i := range l {
		least := 1 + random.IntN(1000000)
		l[i].PerCount = span(least, least+random.IntN(1000001-least))
	}
	var r []api.CoatLayer
	for range random.IntN(41) {
		r = append(r, layer(l[random.IntN(len(l))].Name, 1+random.IntN(100000)))
	}
	return l, r
}

func TestP8_2CountsFaults(t *testing.T) {
	faults := materialFaults()
	for _, name := range []string{"", "a", "AL", "al ", "x", "\xe4"} {
		faults = append(faults, fault[recipe]{func(x *recipe) { x.material = name }, api.ErrMissing})
	}
	for _, c := range []struct {
		want api.Range
		e    api.Errno
	}{
		{span(-1000000000000001, 9000), api.ErrRange}, {span(9000, 1000000000000001), api.ErrRange}, {span(math.MinInt, math.MaxInt), api.ErrRange}, {span(math.MaxInt, math.MinInt), api.ErrRange},
		{span(1000000000000001, 1), api.ErrRange},
		{span(9001, 9000), api.ErrOrder}, {span(-1, -2), api.ErrOrder}, {span(1000000000000000, -1000000000000000), api.ErrOrder},
		{span(-1, 12000), api.ErrRange}, {span(-1000000000000000, 1000000000000000), api.ErrRange}, {span(-9, -9), api.ErrRange},
		{span(0, 0), api.ErrNone}, {span(0, 219), api.ErrNone}, {span(91, 329), api.ErrNone}, {span(9000001, 1000000000000000), api.ErrNone}, {span(1000000000000000, 1000000000000000), api.ErrNone},
	} {
		faults = append(faults, fault[recipe]{func(x *recipe) { x.want = c.want }, c.e})
	}
	checkFaults(t, validRecipe, countsError, faults)
	if n, e := coat.CountsFor(nil, "", span(2, 1)); n != [2]int{} || e != api.ErrMissing {
		t.Error(n, e)
	}
}

func TestP8_2Counts(t *testing.T) {
	l := validRecipe().l
	for _, c := range []struct {
		material string
		want     api.Range
		n        [2]int
	}{
		{"al", span(9000, 12000), [2]int{100, 108}},
		{"al", span(9001, 11990), [2]int{101, 108}},
		{"al", span(8991, 11989), [2]int{100, 107}},
		{"al", span(0, 220), [2]int{1, 1}},
		{"al", span(90, 220), [2]int{1, 1}},
		{"al", span(0, 329), [2]int{1, 1}},
		{"al", span(91, 330), [2]int{2, 2}},
		{"al", span(9000000, 1000000000000000), [2]int{100000, 100000}},
		{"al", span(0, 1000000000000000), [2]int{1, 100000}},
		{"al", span(0, 11000110), [2]int{1, 100000}},
		{"al", span(0, 11000109), [2]int{1, 99999}},
		{"ag", span(50, 100), [2]int{1, 1}},
		{"si", span(1, 2000000), [2]int{1, 1}},
		{"si", span(2, 3000000), [2]int{2, 2}},
	} {
		if n, e := coat.CountsFor(l, c.material, c.want); n != c.n || e != api.OK {
			t.Error(c, n, e)
		}
	}
}

// trial is the least and the greatest counts with a thickness in a range, by trying all.
func trial(l []api.Material, name string, want api.Range) ([2]int, api.Errno) {
	var found [2]int
	for n := 1; n <= 100000; n++ {
		r, _ := coat.Thickness(l, layer(name, n))
		if want.Lo <= r.Lo && r.Hi <= want.Hi {
			if found[0] == 0 {
				found[0] = n
			}
			found[1] = n
		}
	}
	if found[0] == 0 {
		return found, api.ErrNone
	}
	return found, api.OK
}

func TestP8_2TrialOfAllCounts(t *testing.T) {
	random := rand.New(rand.NewPCG(8, 2))
	counts := map[api.Errno]int{}
	for range 300 {
		least := 1 + random.IntN(200)
		l := []api.Material{material("m", least, least+random.IntN(1+least/5))}
		r, _ := coat.Thickness(l, layer("m", 1+random.IntN(100000)))
		want := span(max(0, r.Lo-random.IntN(r.Lo)/(1+random.IntN(1000))), r.Hi+random.IntN(r.Hi)/(1+random.IntN(1000)))
		if random.IntN(2) == 0 {
			want = span(r.Lo+random.IntN(2*least)-least, r.Hi+random.IntN(2*least)-least)
			want.Lo = min(max(0, want.Lo), want.Hi)
		}
		n, e := coat.CountsFor(l, "m", want)
		if n2, e2 := trial(l, "m", want); n != n2 || e != e2 {
			t.Fatal(l, want, n, e, n2, e2)
		}
		counts[e]++
	}
	if counts[api.OK] < 50 || counts[api.ErrNone] < 20 {
		t.Error("too few of a kind", counts)
	}
}

// TestP8_8Within lets counts be worth anything within their range, and the shutter close at any time.
func TestP8_8Within(t *testing.T) {
	random := rand.New(rand.NewPCG(8, 8))
	for range 3000 {
		least := 1 + random.IntN(1000)
		spread := random.IntN(100)
		l := []api.Material{material("m", least, least+spread)}
		n := 1 + random.IntN(50)
		extreme := random.IntN(3)
		sum, next := 0, 0
		for range n + 1 {
			sum += next
			next = least + [3]int{0, spread, random.IntN(spread + 1)}[extreme]
		}
		part := [3]int{0, next, random.IntN(next + 1)}[extreme] // of the next count
		r, e := coat.Thickness(l, layer("m", n))
		if e != api.OK || sum+part < r.Lo || sum+part > r.Hi {
			t.Fatal(l, n, sum, part, r, e)
		}
		if extreme == 0 && sum+part != r.Lo || extreme == 1 && sum+part != r.Hi {
			t.Fatal("too wide", l, n, sum, part, r)
		}
	}
}

// TestP8_8Wanted checks that counts of CountsFor, and those between, lie in the wanted range, and those beside do not.
func TestP8_8Wanted(t *testing.T) {
	random := rand.New(rand.NewPCG(8, 88))
	found := 0
	for range 3000 {
		least := 1 + random.IntN(1000)
		l := []api.Material{material("m", least, least+random.IntN(20))}
		lo := random.IntN(100000)
		want := span(lo, lo+random.IntN(100000))
		n, e := coat.CountsFor(l, "m", want)
		if e != api.OK {
			continue
		}
		found++
		for counts := max(1, n[0]-1); counts <= min(n[1]+1, 100000); counts++ {
			r, _ := coat.Thickness(l, layer("m", counts))
			lies := want.Lo <= r.Lo && r.Hi <= want.Hi
			if lies != (n[0] <= counts && counts <= n[1]) {
				t.Fatal(l, want, n, counts, r)
			}
		}
	}
	if found < 1000 {
		t.Error("too few", found)
	}
}

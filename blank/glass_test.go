package blank_test

import (
	"math/big"
	"math/rand/v2"
	"slices"
	"testing"

	"speculum/api"
	"speculum/blank"
)

// disc is the blank of the chapter's first example.
func disc() api.Glass {
	return api.Glass{Density: 575, Thick: 30, Parts: []api.GlassPart{{Outer: 200, To: 30}}}
}

// dish is the blank of the second one.
func dish() api.Glass {
	g := disc()
	g.Caps = []api.GlassCap{{Radius: 1000, Height: 5, At: 25, Up: true, Cut: true}}
	return g
}

// rich is a valid blank with parts and caps. Its volume is above 0 whatever valid number is put for one of its numbers.
func rich() api.Glass {
	return api.Glass{Density: 2500, Thick: 100,
		Parts: []api.GlassPart{
			{Outer: 1000, Inner: 10, From: 0, To: 100},
			{Outer: 20, From: 30, To: 40, Count: 6, Cut: true},
		},
		Caps: []api.GlassCap{
			{Radius: 3000, Height: 20, At: 60, Up: true},
			{Radius: 900, Height: 10, At: 50},
		},
	}
}

// glassError is the error of all functions of a blank.
func glassError(t *testing.T, g api.Glass) api.Errno {
	t.Helper()
	volume, e1 := blank.Volume(g)
	mass, e2 := blank.Mass(g)
	centre, e3 := blank.Centre(g)
	text, e4 := blank.Print(g)
	none(t, e1, volume == 0 && mass == api.Range{} && centre == api.Range{} && text == "")
	return agree(t, blank.CheckGlass(g), e1, e2, e3, e4)
}

// partFaults are the faults of the part i of rich.
func partFaults(i int) []fault[api.Glass] {
	part := func(g *api.Glass) *api.GlassPart { return &g.Parts[i] }
	return slices.Concat(
		numberFaults(func(g *api.Glass) *int { return &part(g).Outer }, 1, 1000, api.ErrRange),
		numberFaults(func(g *api.Glass) *int { return &part(g).Inner }, 0, rich().Parts[i].Outer-1, api.ErrRange),
		numberFaults(func(g *api.Glass) *int { return &part(g).From }, 0, 100, api.ErrRange),
		numberFaults(func(g *api.Glass) *int { return &part(g).To }, 0, 100, api.ErrRange),
		numberFaults(func(g *api.Glass) *int { return &part(g).Count }, 0, 100, api.ErrRange),
		[]fault[api.Glass]{
			{func(g *api.Glass) { part(g).From, part(g).To = 40, 40 }, api.ErrOrder},
			{func(g *api.Glass) { part(g).From, part(g).To = 40, 39 }, api.ErrOrder},
			{func(g *api.Glass) { part(g).Inner, part(g).Count = 1, 1 }, api.ErrForm},
		},
	)
}

// capFaults are the faults of its cap i.
func capFaults(i int) []fault[api.Glass] {
	c := func(g *api.Glass) *api.GlassCap { return &g.Caps[i] }
	atMost := [2]int{80, 100}[i]
	atLeast := [2]int{0, 10}[i]
	return slices.Concat(
		numberFaults(func(g *api.Glass) *int { return &c(g).Radius }, rich().Caps[i].Height, 100000, api.ErrRange),
		numberFaults(func(g *api.Glass) *int { return &c(g).Height }, 1, [2]int{40, 50}[i], api.ErrRange),
		numberFaults(func(g *api.Glass) *int { return &c(g).At }, atLeast, atMost, api.ErrRange),
	)
}

func TestP3_1Faults(t *testing.T) {
	manyParts := func(g *api.Glass) { g.Parts = slices.Grow(g.Parts, 41)[:41] }
	manyCaps := func(g *api.Glass) { g.Caps = slices.Grow(g.Caps, 5)[:5] }
	checkFaults(t, rich, glassError, slices.Concat(
		numberFaults(func(g *api.Glass) *int { return &g.Density }, 1, 10000, api.ErrRange),
		numberFaults(func(g *api.Glass) *int { return &g.Thick }, 1, 500, api.ErrRange),
		[]fault[api.Glass]{{manyParts, api.ErrLarge}},
		partFaults(0), partFaults(1),
		[]fault[api.Glass]{{manyCaps, api.ErrLarge}},
		capFaults(0), capFaults(1),
		[]fault[api.Glass]{{func(g *api.Glass) { g.Parts[0].Cut = true }, api.ErrZero}},
	))
}

func TestP3_1Limits(t *testing.T) {
	for _, x := range []struct {
		field       func(g *api.Glass) *int
		least, most int
	}{
		{func(g *api.Glass) *int { return &g.Density }, 1, 10000},
		{func(g *api.Glass) *int { return &g.Thick }, 100, 500},
		{func(g *api.Glass) *int { return &g.Parts[0].Outer }, 11, 1000},
		{func(g *api.Glass) *int { return &g.Parts[1].Outer }, 1, 1000},
		{func(g *api.Glass) *int { return &g.Parts[0].Inner }, 0, 999},
		{func(g *api.Glass) *int { return &g.Parts[0].From }, 0, 99},
		{func(g *api.Glass) *int { return &g.Parts[1].From }, 0, 39},
		{func(g *api.Glass) *int { return &g.Parts[0].To }, 1, 100},
		{func(g *api.Glass) *int { return &g.Parts[1].To }, 31, 100},
		{func(g *api.Glass) *int { return &g.Parts[1].Count }, 0, 100},
		{func(g *api.Glass) *int { return &g.Caps[0].Radius }, 20, 100000},
		{func(g *api.Glass) *int { return &g.Caps[0].Height }, 1, 40},
		{func(g *api.Glass) *int { return &g.Caps[0].At }, 0, 80},
		{func(g *api.Glass) *int { return &g.Caps[1].Radius }, 10, 100000},
		{func(g *api.Glass) *int { return &g.Caps[1].Height }, 1, 50},
		{func(g *api.Glass) *int { return &g.Caps[1].At }, 10, 100},
	} {
		checkLimits(t, rich, glassError, x.field, x.least, x.most)
	}
}

func TestP3_1Counts(t *testing.T) {
	g := api.Glass{Density: 10000, Thick: 500, Parts: make([]api.GlassPart, 40), Caps: make([]api.GlassCap, 4)}
	for i := range g.Parts {
		g.Parts[i] = api.GlassPart{Outer: 1000, To: 500, Count: 100}
	}
	for i := range g.Caps {
		g.Caps[i] = api.GlassCap{Radius: 100000, Height: 500, At: 500}
	}
	const parts, caps = 40 * 100 * 3 * 1000 * 1000 * 500, 4 * 4 * 500 * 500 * 299500
	if v, e := blank.Volume(g); v != parts+caps || e != api.OK {
		t.Error(v, e)
	}
	g.Parts = append(g.Parts, g.Parts[0])
	if e := glassError(t, g); e != api.ErrLarge {
		t.Error(e)
	}
	g.Parts = g.Parts[:40]
	g.Caps = append(g.Caps, g.Caps[0])
	if e := glassError(t, g); e != api.ErrLarge {
		t.Error(e)
	}
}

func TestP3_1Zero(t *testing.T) {
	ring := api.GlassPart{Outer: 11, Inner: 9, From: 2, To: 7}
	cut := ring
	cut.Cut = true
	ball := api.GlassCap{Radius: 1, Height: 1, At: 7}
	for _, x := range []struct {
		g    api.Glass
		want int
		e    api.Errno
	}{
		{api.Glass{Density: 1, Thick: 9}, 0, api.ErrZero},
		{api.Glass{Density: 1, Thick: 9, Parts: []api.GlassPart{cut}}, 0, api.ErrZero},
		{api.Glass{Density: 1, Thick: 9, Parts: []api.GlassPart{ring, cut}}, 0, api.ErrZero},
		{api.Glass{Density: 1, Thick: 9, Parts: []api.GlassPart{ring, cut}, Caps: []api.GlassCap{ball}}, 8, api.OK},
		{api.Glass{Density: 1, Thick: 9, Parts: []api.GlassPart{{Outer: 1, To: 3}, {Outer: 1, To: 1, Cut: true}}, Caps: []api.GlassCap{ball}}, 14, api.OK},
		{api.Glass{Density: 1, Thick: 9, Parts: []api.GlassPart{ring}}, 600, api.OK},
	} {
		if v, e := blank.Volume(x.g); v != x.want || e != x.e {
			t.Error(x.g, v, e)
		}
		if e := glassError(t, x.g); e != x.e {
			t.Error(x.g, e)
		}
	}
}

func TestP3_1Examples(t *testing.T) {
	holed := disc()
	holed.Parts[0].Inner = 40
	pocketed := disc()
	pocketed.Parts = append(pocketed.Parts, api.GlassPart{Outer: 10, To: 20, Count: 6, Cut: true})
	lidded := disc()
	lidded.Caps = []api.GlassCap{{Radius: 5, Height: 5, At: 30}}
	for want, g := range map[int]api.Glass{3600000: disc(), 3456000: holed, 3300500: dish(), 3564000: pocketed, 3601000: lidded} {
		if v, e := blank.Volume(g); v != want || e != api.OK {
			t.Error(want, v, e)
		}
	}
}

// integral is that of the polynomial with the coefficients p from lo to hi.
func integral(p []*big.Rat, lo, hi int) *big.Rat {
	sum := new(big.Rat)
	for i, c := range p {
		for _, end := range []int{hi, lo} {
			power := new(big.Int).Exp(big.NewInt(int64(end)), big.NewInt(int64(i+1)), nil)
			term := new(big.Rat).SetFrac(power, big.NewInt(int64(i+1)))
			sum.Add(sum, term.Mul(term, c))
			sum.Neg(sum) // so that the lower end counts as negative
		}
	}
	return sum
}

// truly is the volume of a body and its moment about the height 0, in units of pi cubic millimetres: integrals of the
// area of its sections, a polynomial of the height, and of this area times the height.
func truly(area []*big.Rat, lo, hi int) (volume, moment *big.Rat) {
	volume = integral(area, lo, hi)
	if lo > hi {
		volume.Neg(volume)
	}
	moment = integral(append([]*big.Rat{new(big.Rat)}, area...), lo, hi)
	if lo > hi {
		moment.Neg(moment)
	}
	return volume, moment
}

// trueGlass is the volume and the moment of a blank, in units of pi.
func trueGlass(g api.Glass) (volume, moment *big.Rat) {
	volume, moment = new(big.Rat), new(big.Rat)
	add := func(area []*big.Rat, lo, hi, times int, isCut bool) {
		if isCut {
			times = -times
		}
		v, m := truly(area, lo, hi)
		n := big.NewRat(int64(times), 1)
		volume.Add(volume, v.Mul(v, n))
		moment.Add(moment, m.Mul(m, n))
	}
	for _, p := range g.Parts {
		area := big.NewRat(int64(p.Outer*p.Outer-p.Inner*p.Inner), 4)
		add([]*big.Rat{area}, p.From, p.To, max(1, p.Count), p.Cut)
	}
	for _, c := range g.Caps {
		// At the distance x from the apex the square of the radius is 2 Radius x - x^2; x is the height less At, or At
		// less the height.
		at, ball := int64(c.At), 2*int64(c.Radius)
		rim, turn := c.At-c.Height, int64(-1)
		if c.Up {
			rim, turn = c.At+c.Height, 1
		}
		area := []*big.Rat{big.NewRat(-turn*ball*at-at*at, 1), big.NewRat(turn*ball+2*at, 1), big.NewRat(-1, 1)}
		add(area, c.At, rim, 1, c.Cut)
	}
	return volume, moment
}

// ends are a number rounded down and up.
func ends(n *big.Rat) api.Range {
	lo := new(big.Int).Div(n.Num(), n.Denom())
	hi := new(big.Int).Set(lo)
	if !n.IsInt() {
		hi.Add(hi, big.NewInt(1))
	}
	return span(int(lo.Int64()), int(hi.Int64()))
}

// someGlass is a blank with valid parts and caps. Its volume may be 0 or less.
func someGlass(random *rand.Rand) api.Glass {
	pick := func(lo, hi int) int { return lo + random.IntN(hi-lo+1) }
	isSmall := random.IntN(2) == 0
	width, radius := 1000, 100000
	if isSmall {
		width, radius = 6, 9
	}
	g := api.Glass{Density: pick(1, 10000), Thick: pick(1, 500)}
	if isSmall {
		g.Thick = pick(1, 8)
	}
	for range random.IntN([]int{2, 5, 41}[random.IntN(3)]) {
		p := api.GlassPart{Outer: pick(1, width), From: pick(0, g.Thick-1), Cut: random.IntN(3) == 0}
		p.To = pick(p.From+1, g.Thick)
		if random.IntN(2) == 0 {
			p.Inner = pick(0, p.Outer-1)
		} else {
			p.Count = pick(0, 100)
		}
		g.Parts = append(g.Parts, p)
	}
	for range random.IntN(5) {
		c := api.GlassCap{Radius: pick(1, radius), Up: random.IntN(2) == 0, Cut: random.IntN(2) == 0}
		c.Height = pick(1, min(c.Radius, g.Thick))
		c.At = pick(0, g.Thick-c.Height)
		if !c.Up {
			c.At += c.Height
		}
		g.Caps = append(g.Caps, c)
	}
	return g
}

// someValidGlass is one with a volume above 0.
func someValidGlass(random *rand.Rand) api.Glass {
	for {
		if g := someGlass(random); blank.CheckGlass(g) == api.OK {
			return g
		}
	}
}

// checkTruly checks all numbers of a blank, and tells whether it has some.
func checkTruly(t *testing.T, g api.Glass) bool {
	t.Helper()
	volume, moment := trueGlass(g)
	volume.Mul(volume, big.NewRat(12, 1))
	moment.Mul(moment, big.NewRat(12, 1))
	if volume.Sign() <= 0 {
		if e := glassError(t, g); e != api.ErrZero {
			t.Fatal(g, e)
		}
		return false
	}
	mass := new(big.Rat).Mul(volume, big.NewRat(int64(g.Density), 1000000000))
	centre := new(big.Rat).Quo(moment, volume)
	centre.Mul(centre, big.NewRat(1000, 1))
	v, e1 := blank.Volume(g)
	m, e2 := blank.Mass(g)
	c, e3 := blank.Centre(g)
	if agree(t, e1, e2, e3) != api.OK || volume.Cmp(big.NewRat(int64(v), 1)) != 0 || m != ends(mass) || c != ends(centre) {
		t.Fatal(g, v, m, c, e1, volume, mass, centre)
	}
	return true
}

func TestP3_2TrueMassesAndCentres(t *testing.T) {
	random := rand.New(rand.NewPCG(3, 2))
	count := 0
	for range 20000 {
		if checkTruly(t, someGlass(random)) {
			count++
		}
	}
	if count < 5000 || count > 19000 {
		t.Error("too few of a kind", count)
	}
}

func TestP3_2GreatestNumbers(t *testing.T) {
	for _, isUp := range []bool{false, true} {
		g := api.Glass{Density: 10000, Thick: 500}
		for range 40 {
			g.Parts = append(g.Parts, api.GlassPart{Outer: 1000, To: 500, Count: 100})
		}
		for range 4 {
			c := api.GlassCap{Radius: 100000, Height: 500, At: 500, Up: isUp}
			if isUp {
				c.At = 0
			}
			g.Caps = append(g.Caps, c)
		}
		checkTruly(t, g)
		for i := range 39 {
			g.Parts[i].Cut = i%2 == 1
			g.Parts[i].From = 499 * (i % 2)
		}
		checkTruly(t, g)
	}
	// all but a unit of the greatest blank is cut
	g := api.Glass{Density: 10000, Thick: 500}
	for i := range 38 {
		g.Parts = append(g.Parts, api.GlassPart{Outer: 1000, From: 0, To: 500, Count: 100, Cut: i%2 == 1})
	}
	g.Parts = append(g.Parts, api.GlassPart{Outer: 1, From: 499, To: 500})
	checkTruly(t, g)
	// the upper halves are cut, and the lower ones a little more often: the centre is far below the blank, or above it
	for _, isCut := range []bool{true, false} {
		g := api.Glass{Density: 1, Thick: 500}
		for range 19 {
			g.Parts = append(g.Parts,
				api.GlassPart{Outer: 1000, From: 0, To: 250, Count: 100, Cut: !isCut},
				api.GlassPart{Outer: 1000, From: 250, To: 500, Count: 100, Cut: isCut})
		}
		g.Parts = append(g.Parts, api.GlassPart{Outer: 1, From: 0, To: 1})
		checkTruly(t, g)
		if c, e := blank.Centre(g); e != api.OK || (c.Hi < 0) != isCut || c.Lo < 1000000000000 && !isCut {
			t.Error(c, e)
		}
	}
}

func TestP3_2Examples(t *testing.T) {
	low := disc()
	low.Parts = append(low.Parts, api.GlassPart{Outer: 199, From: 15, To: 30, Cut: true}, api.GlassPart{Outer: 199, From: 16, To: 30, Cut: true})
	for _, x := range []struct {
		g            api.Glass
		mass, centre api.Range
	}{
		{disc(), span(2, 3), span(15000, 15000)},
		{dish(), span(1, 2), span(13790, 13791)},
		{low, span(0, 1), span(-157392, -157391)},
		{api.Glass{Density: 1, Thick: 2, Parts: []api.GlassPart{{Outer: 1, To: 1}}}, span(0, 1), span(500, 500)},
		{api.Glass{Density: 10000, Thick: 1, Parts: []api.GlassPart{{Outer: 1000, To: 1}}}, span(30, 30), span(500, 500)},
		{api.Glass{Density: 1000, Thick: 9, Caps: []api.GlassCap{{Radius: 1, Height: 1, At: 5, Up: true}}}, span(0, 1), span(5625, 5625)},
		{api.Glass{Density: 1000, Thick: 9, Caps: []api.GlassCap{{Radius: 1, Height: 1, At: 5}}}, span(0, 1), span(4375, 4375)},
	} {
		mass, e := blank.Mass(x.g)
		centre, e2 := blank.Centre(x.g)
		if mass != x.mass || centre != x.centre || agree(t, e, e2) != api.OK {
			t.Error(x.g, mass, centre, e)
		}
	}
}

// sameNumbers tells whether two blanks have the same volume and centre.
func sameNumbers(t *testing.T, a, b api.Glass) bool {
	t.Helper()
	volumeA, e1 := blank.Volume(a)
	volumeB, e2 := blank.Volume(b)
	centreA, e3 := blank.Centre(a)
	centreB, e4 := blank.Centre(b)
	return agree(t, e1, e2, e3, e4) == api.OK && volumeA == volumeB && centreA == centreB
}

func TestP3_7Parts(t *testing.T) {
	random := rand.New(rand.NewPCG(3, 7))
	for range 5000 {
		g := someValidGlass(random)
		other := g
		other.Parts, other.Caps = slices.Clone(g.Parts), slices.Clone(g.Caps)
		random.Shuffle(len(other.Parts), func(i, j int) { other.Parts[i], other.Parts[j] = other.Parts[j], other.Parts[i] })
		random.Shuffle(len(other.Caps), func(i, j int) { other.Caps[i], other.Caps[j] = other.Caps[j], other.Caps[i] })
		if !sameNumbers(t, g, other) {
			t.Fatal("another order", g, other)
		}
		if len(other.Parts) > 38 {
			continue
		}
		p := api.GlassPart{Outer: 1 + random.IntN(1000), To: g.Thick, Count: random.IntN(100)}
		opposite := p
		opposite.Cut = true
		other.Parts = append(other.Parts, p, opposite)
		if !sameNumbers(t, g, other) {
			t.Fatal("a part and the same cut", g, other)
		}
	}
}

func TestP3_7DividedRings(t *testing.T) {
	random := rand.New(rand.NewPCG(7, 3))
	for range 3000 {
		g := api.Glass{Density: 1, Thick: 500}
		ring := api.GlassPart{Outer: 3 + random.IntN(998), From: random.IntN(499), To: 500}
		ring.Inner = random.IntN(ring.Outer - 1)
		height := ring.From + 1 + random.IntN(500-ring.From-1)
		lower, upper := ring, ring
		lower.To, upper.From = height, height
		diameter := ring.Inner + 1 + random.IntN(ring.Outer-ring.Inner-1)
		inner, outer := ring, ring
		inner.Outer, outer.Inner = diameter, diameter
		g.Parts = []api.GlassPart{ring}
		if !sameNumbers(t, g, api.Glass{Density: 1, Thick: 500, Parts: []api.GlassPart{lower, upper}}) {
			t.Fatal("divided at a height", ring, height)
		}
		if !sameNumbers(t, g, api.Glass{Density: 1, Thick: 500, Parts: []api.GlassPart{inner, outer}}) {
			t.Fatal("divided by a diameter", ring, diameter)
		}
	}
}

func TestP3_7CentresAndDensities(t *testing.T) {
	random := rand.New(rand.NewPCG(7, 7))
	for range 5000 {
		g := someValidGlass(random)
		g.Density = 1 + random.IntN(5000)
		mass, _ := blank.Mass(g)
		g.Density *= 2
		twice, e := blank.Mass(g)
		if e != api.OK || twice.Lo < 2*mass.Lo || twice.Hi > 2*mass.Hi {
			t.Fatal("twice the density", g, mass, twice, e)
		}
		g.Caps = nil
		if len(g.Parts) == 0 {
			continue
		}
		least, most := 500, 0
		for i := range g.Parts {
			g.Parts[i].Cut = false
			least, most = min(least, g.Parts[i].From), max(most, g.Parts[i].To)
		}
		if c, e := blank.Centre(g); e != api.OK || c.Lo < 1000*least || c.Hi > 1000*most {
			t.Fatal("centre", g, c, e)
		}
	}
}

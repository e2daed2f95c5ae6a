package profile_test

import (
	"math/big"
	"math/rand/v2"
	"slices"
	"testing"

	"speculum/api"
	"speculum/profile"
)

func maps(sectors int, values ...[]int) api.TurnedMaps {
	return api.TurnedMaps{Sectors: sectors, Values: values}
}

// chapterMaps is the seventh example of the chapter.
func chapterMaps() api.TurnedMaps {
	return maps(2, []int{3, 5}, []int{4, 4})
}

func validMaps() api.TurnedMaps {
	return maps(6, []int{1, 2, 3, 4, 5, 6}, []int{9, -2, 0, 3, 7, 7}, []int{-100000, 100000, 0, 0, 1, -1})
}

func turnedError(t *testing.T, m api.TurnedMaps) api.Errno {
	t.Helper()
	mirror, e1 := profile.MirrorPart(m)
	rest, e2 := profile.RestPart(m)
	misfit, e3 := profile.Misfit(m)
	none(t, e1, mirror == nil && rest == nil && misfit == api.Frac{})
	return agree(t, profile.CheckTurned(m), e1, e2, e3)
}

func TestP5_7Faults(t *testing.T) {
	faults := slices.Concat(
		numberFaults(func(m *api.TurnedMaps) *int { return &m.Sectors }, 1, 24, api.ErrRange),
		[]fault[api.TurnedMaps]{
			{func(m *api.TurnedMaps) { m.Sectors = 7 }, api.ErrShape},
			{func(m *api.TurnedMaps) { m.Sectors = 12 }, api.ErrShape},
			{func(m *api.TurnedMaps) { m.Values = nil }, api.ErrShape},
			{func(m *api.TurnedMaps) { m.Values = append(m.Values, m.Values[0]) }, api.ErrShape},
			{func(m *api.TurnedMaps) { m.Values[0] = nil }, api.ErrShape},
			{func(m *api.TurnedMaps) { m.Values[1] = append(m.Values[1], 7) }, api.ErrShape},
		},
	)
	shapes := []fault[api.TurnedMaps]{
		{func(m *api.TurnedMaps) { m.Values[2] = m.Values[2][:5] }, api.ErrShape},
		{func(m *api.TurnedMaps) { m.Values[2] = append(m.Values[2], 7) }, api.ErrShape},
		{func(m *api.TurnedMaps) { m.Values[2] = nil }, api.ErrShape},
	}
	for _, l := range [][]fault[api.TurnedMaps]{faults, shapes} {
		for _, f := range l {
			m := validMaps()
			f.spoil(&m)
			if e := turnedError(t, m); e != f.want {
				t.Error(m, e, f.want)
			}
		}
	}
	// shapes are told before values, and sectors before shapes
	var values []fault[api.TurnedMaps]
	for turn := range 2 {
		for sector := range 6 {
			values = append(values, numberFaults(func(m *api.TurnedMaps) *int { return &m.Values[turn][sector] }, -100000, 100000, api.ErrRange)...)
		}
	}
	for _, first := range shapes {
		checkFaults(t, validMaps, turnedError, slices.Concat(faults[:4], []fault[api.TurnedMaps]{first}, values))
	}
	checkLimits(t, validMaps, turnedError, func(m *api.TurnedMaps) *int { return &m.Values[1][4] }, -100000, 100000)
	for _, x := range []struct {
		sectors, turns int
		want           api.Errno
	}{
		{1, 1, api.OK}, {1, 0, api.ErrShape}, {1, 2, api.ErrShape}, {24, 1, api.OK}, {24, 2, api.OK}, {24, 12, api.OK}, {24, 24, api.ErrShape}, {24, 5, api.ErrShape}, {24, 8, api.OK},
		{13, 13, api.ErrShape}, {12, 12, api.OK}, {25, 5, api.ErrRange}, {0, 1, api.ErrRange}, {24, 0, api.ErrShape}, {22, 11, api.OK}, {2, 12, api.ErrShape}, {6, 4, api.ErrShape},
	} {
		m := api.TurnedMaps{Sectors: x.sectors}
		for range x.turns {
			m.Values = append(m.Values, make([]int, x.sectors))
		}
		if e := turnedError(t, m); e != x.want {
			t.Error(x, e)
		}
	}
}

func TestP5_7Examples(t *testing.T) {
	other := chapterMaps()
	other.Values[1][0] = 8
	half := maps(4, []int{1, 0, 0, 0}, []int{0, 0, 0, 0})
	for _, x := range []struct {
		m            api.TurnedMaps
		mirror, rest []api.Frac
		misfit       api.Frac
	}{
		{chapterMaps(), []api.Frac{frac(-1, 2), frac(1, 2)}, []api.Frac{frac(7, 2), frac(9, 2)}, frac(0, 1)},
		{other, []api.Frac{frac(-3, 2), frac(3, 2)}, []api.Frac{frac(11, 2), frac(9, 2)}, frac(1, 1)},
		{maps(1, []int{-7}), []api.Frac{frac(0, 1)}, []api.Frac{frac(-7, 1)}, frac(0, 1)},
		{maps(3, []int{-7, 0, 9}), []api.Frac{frac(0, 1), frac(0, 1), frac(0, 1)}, []api.Frac{frac(-7, 1), frac(0, 1), frac(9, 1)}, frac(0, 1)},
		// the mirror's part: at 0 (1 - 1/2 + 0 - 0) / 2, at 2 (0 - 0 + 0 - 1/2) / 2; the misfit: 1 - 1/4 - 1/2
		{half, []api.Frac{frac(1, 4), frac(0, 1), frac(-1, 4), frac(0, 1)}, []api.Frac{frac(1, 2), frac(0, 1), frac(0, 1), frac(0, 1)}, frac(1, 4)},
	} {
		mirror, e1 := profile.MirrorPart(x.m)
		rest, e2 := profile.RestPart(x.m)
		misfit, e3 := profile.Misfit(x.m)
		if !slices.Equal(mirror, x.mirror) || !slices.Equal(rest, x.rest) || misfit != x.misfit || agree(t, e1, e2, e3) != api.OK {
			t.Error(x, mirror, rest, misfit)
		}
	}
}

// modulo is a number of sectors brought to 0 to n - 1.
func modulo(i, n int) int {
	return (i%n + n) % n
}

func sum(numbers ...*big.Rat) *big.Rat {
	s := new(big.Rat)
	for _, n := range numbers {
		s.Add(s, n)
	}
	return s
}

func minus(n *big.Rat) *big.Rat { return new(big.Rat).Neg(n) }

// parts is the mirror's part, the rest and the misfit, by their definitions.
func parts(m api.TurnedMaps) (mirror, rest []*big.Rat, misfit *big.Rat) {
	n, k := m.Sectors, len(m.Values)
	s := n / k
	for i := range n {
		var of []*big.Rat
		for t := range k {
			of = append(of, ratio(m.Values[t][i], k))
		}
		rest = append(rest, sum(of...))
	}
	for i := range n {
		part := new(big.Rat)
		for t := range k {
			at := modulo(i+t*s, n)
			part = sum(part, ratio(m.Values[t][at], 1), minus(rest[at]))
		}
		mirror = append(mirror, part.Mul(part, ratio(1, k)))
	}
	misfit = new(big.Rat)
	for t := range k {
		for i := range n {
			left := sum(ratio(m.Values[t][i], 1), minus(mirror[modulo(i-t*s, n)]), minus(rest[i]))
			if left.Abs(left).Cmp(misfit) > 0 {
				misfit = left
			}
		}
	}
	return mirror, rest, misfit
}

// someSectors are sectors and turns that divide them.
func someSectors(random *rand.Rand) (sectors, turns int) {
	turns = 1 + random.IntN(12)
	return turns * (1 + random.IntN(24/turns)), turns
}

func someValues(random *rand.Rand, n, most int) []int {
	var l []int
	for range n {
		l = append(l, random.IntN(2*most+1)-most)
	}
	return l
}

// measured is the maps of a mirror and an instrument.
func measured(mirror, instrument []int, turns int) api.TurnedMaps {
	n := len(mirror)
	m := api.TurnedMaps{Sectors: n}
	for t := range turns {
		var values []int
		for i := range n {
			values = append(values, mirror[modulo(i-t*n/turns, n)]+instrument[i])
		}
		m.Values = append(m.Values, values)
	}
	return m
}

func TestP5_7AgainstBig(t *testing.T) {
	random := rand.New(rand.NewPCG(5, 7))
	for range 3000 {
		sectors, turns := someSectors(random)
		most := []int{1, 10, 100000}[random.IntN(3)]
		m := api.TurnedMaps{Sectors: sectors}
		for range turns {
			m.Values = append(m.Values, someValues(random, sectors, most))
		}
		if random.IntN(5) == 0 { // as much as possible, or as little
			for _, values := range m.Values {
				for i := range values {
					values[i] = 100000 * (2*random.IntN(2) - 1)
				}
			}
		}
		mirror, rest, misfit := parts(m)
		x, e1 := profile.MirrorPart(m)
		y, e2 := profile.RestPart(m)
		z, e3 := profile.Misfit(m)
		if !slices.EqualFunc(x, mirror, isFrac) || !slices.EqualFunc(y, rest, isFrac) || !isFrac(z, misfit) || agree(t, e1, e2, e3) != api.OK {
			t.Fatal(m, x, y, z, mirror, rest, misfit)
		}
	}
}

func rat(f api.Frac) *big.Rat { return ratio(f.Num, f.Den) }

func TestP5_13Turns(t *testing.T) {
	random := rand.New(rand.NewPCG(5, 13))
	for range 3000 {
		n, turns := someSectors(random)
		s := n / turns
		m := measured(someValues(random, n, 50000), someValues(random, n, 50000), turns)
		if f, e := profile.Misfit(m); f != frac(0, 1) || e != api.OK {
			t.Fatal("a misfit", m, f, e)
		}
		if random.IntN(2) == 0 { // values that come from no mirror and instrument
			for _, values := range m.Values {
				values[random.IntN(n)] = random.IntN(50000)
			}
		}
		part, e := profile.MirrorPart(m)
		for i := range n {
			var of []*big.Rat
			for t := range turns {
				of = append(of, rat(part[modulo(i+t*s, n)]))
			}
			if sum(of...).Sign() != 0 {
				t.Fatal("a sum", m, part, i)
			}
		}
		if turns == 1 && !slices.Equal(part, slices.Repeat([]api.Frac{frac(0, 1)}, n)) {
			t.Fatal("one turn", m, part)
		}
		instrument := someValues(random, n, 40000)
		with, later := api.TurnedMaps{Sectors: n}, api.TurnedMaps{Sectors: n}
		for turn, values := range m.Values {
			var more []int
			for i, value := range values {
				more = append(more, max(-100000, min(100000, value))/2+instrument[i])
			}
			with.Values, later.Values = append(with.Values, more), append(later.Values, m.Values[(turn+1)%turns])
		}
		halves, e2 := profile.MirrorPart(api.TurnedMaps{Sectors: n, Values: halved(m.Values)})
		same, e3 := profile.MirrorPart(with)
		if !slices.Equal(halves, same) {
			t.Fatal("another instrument", m, with, halves, same)
		}
		back, e4 := profile.MirrorPart(later)
		for i := range n {
			if back[i] != part[modulo(i-s, n)] {
				t.Fatal("turns begun one later", m, part, back, i)
			}
		}
		if agree(t, e, e2, e3, e4) != api.OK {
			t.Fatal(m, e)
		}
	}
}

func halved(values [][]int) [][]int {
	var l [][]int
	for _, row := range values {
		half := slices.Clone(row)
		for i := range half {
			half[i] /= 2
		}
		l = append(l, half)
	}
	return l
}

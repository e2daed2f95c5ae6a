package profile

import "speculum/api"

// CheckTurned tells whether turned maps are valid.
func CheckTurned(m api.TurnedMaps) api.Errno {
	if !isWithin(m.Sectors, 1, api.MaxSectors) {
		return api.ErrRange
	}
	if !isWithin(len(m.Values), 1, api.MaxTurns) || m.Sectors%len(m.Values) != 0 {
		return api.ErrShape
	}
	for _, values := range m.Values {
		if len(values) != m.Sectors {
			return api.ErrShape
		}
	}
	for _, values := range m.Values {
		if !areSmall(api.MaxTurned, values...) {
			return api.ErrRange
		}
	}
	return api.OK
}

// turned is the sector of the instrument at which a sector of the mirror is in a turn.
func turned(m api.TurnedMaps, sector, turn int) int {
	return (sector + turn*m.Sectors/len(m.Values)) % m.Sectors
}

// restSums is the rest of valid maps, times the number of turns.
func restSums(m api.TurnedMaps) []int {
	sums := make([]int, m.Sectors)
	for _, values := range m.Values {
		for sector, value := range values {
			sums[sector] += value
		}
	}
	return sums
}

// mirrorSums is the mirror's part of valid maps, times the square of the number of turns.
func mirrorSums(m api.TurnedMaps) []int {
	rest, sums := restSums(m), make([]int, m.Sectors)
	for turn, values := range m.Values {
		for sector := range sums {
			at := turned(m, sector, turn)
			sums[sector] += values[at]*len(m.Values) - rest[at]
		}
	}
	return sums
}

// divided is numbers as fractions with a denominator, in lowest terms.
func divided(numbers []int, den int) []api.Frac {
	fractions := make([]api.Frac, len(numbers))
	for i, n := range numbers {
		fractions[i] = lowest(n, den)
	}
	return fractions
}

// MirrorPart is the mirror's part of turned maps: the mirror less its average over the turns.
func MirrorPart(m api.TurnedMaps) ([]api.Frac, api.Errno) {
	if e := CheckTurned(m); e != api.OK {
		return nil, e
	}
	return divided(mirrorSums(m), len(m.Values)*len(m.Values)), api.OK
}

// RestPart is the rest of turned maps: the instrument and the mirror's average over the turns.
func RestPart(m api.TurnedMaps) ([]api.Frac, api.Errno) {
	if e := CheckTurned(m); e != api.OK {
		return nil, e
	}
	return divided(restSums(m), len(m.Values)), api.OK
}

// Misfit is the greatest size of what the mirror's part and the rest leave of a value.
func Misfit(m api.TurnedMaps) (api.Frac, api.Errno) {
	if e := CheckTurned(m); e != api.OK {
		return api.Frac{}, e
	}
	rest, mirror, turns := restSums(m), mirrorSums(m), len(m.Values)
	greatest := 0
	for turn, values := range m.Values {
		for sector := range mirror {
			at := turned(m, sector, turn)
			left := values[at]*turns*turns - mirror[sector] - rest[at]*turns
			greatest = max(greatest, left, -left)
		}
	}
	return lowest(greatest, turns*turns), api.OK
}

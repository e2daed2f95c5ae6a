package blank

import "speculum/api"

const (
	maxDensity   = 10000
	maxPockets   = 100
	maxCapRadius = 100000
	perGram      = 1000000000 // a gram is so many units of density times volume
)

// CheckGlass tells whether a blank is valid.
func CheckGlass(g api.Glass) api.Errno {
	return firstOf(
		within(g.Density, 1, maxDensity),
		within(g.Thick, 1, maxThick),
		need(len(g.Parts) <= api.MaxGlassParts, api.ErrLarge),
		each(g.Parts, func(p api.GlassPart) api.Errno { return checkPart(p, g.Thick) }),
		need(len(g.Caps) <= api.MaxGlassCaps, api.ErrLarge),
		each(g.Caps, func(c api.GlassCap) api.Errno { return checkCap(c, g.Thick) }),
		func() api.Errno { return need(volumeOf(g) > 0, api.ErrZero)() },
	)
}

// checkPart is the error of a part of a blank of a thickness.
func checkPart(p api.GlassPart, thick int) api.Errno {
	return firstOf(
		within(p.Outer, 1, maxDiameter),
		within(p.Inner, 0, p.Outer-1),
		within(p.From, 0, thick),
		within(p.To, 0, thick),
		within(p.Count, 0, maxPockets),
		need(p.To > p.From, api.ErrOrder),
		need(p.Count == 0 || p.Inner == 0, api.ErrForm),
	)
}

// checkCap is the error of a cap of a blank of a thickness.
func checkCap(c api.GlassCap, thick int) api.Errno {
	return firstOf(
		within(c.Radius, 1, maxCapRadius),
		within(c.Height, 1, min(c.Radius, maxThick)),
		within(c.At, 0, thick),
		within(rim(c), 0, thick),
	)
}

// rim is the height of the rim of a cap.
func rim(c api.GlassCap) int {
	if c.Up {
		return c.At + c.Height
	}
	return c.At - c.Height
}

// signed is n, or its opposite if it is cut.
func signed(n int, isCut bool) int {
	if isCut {
		return -n
	}
	return n
}

// partVolume is the volume of a part, which counts as negative if it is cut.
func partVolume(p api.GlassPart) int {
	v := 3 * (p.Outer*p.Outer - p.Inner*p.Inner) * (p.To - p.From)
	return signed(v*max(p.Count, 1), p.Cut)
}

// capVolume is the volume of a cap, which counts as negative if it is cut.
func capVolume(c api.GlassCap) int {
	return signed(4*c.Height*c.Height*(3*c.Radius-c.Height), c.Cut)
}

// capMoment is the moment of a cap, which counts as negative if it is cut.
func capMoment(c api.GlassCap) int {
	depth := signed(2*c.Height*c.Height*c.Height*(8*c.Radius-3*c.Height), c.Cut)
	return 2*capVolume(c)*c.At + signed(depth, !c.Up)
}

// volumeOf is the volume of a blank whose parts and caps are valid: less than 10^13 in size.
func volumeOf(g api.Glass) int {
	volume := 0
	for _, p := range g.Parts {
		volume += partVolume(p)
	}
	for _, c := range g.Caps {
		volume += capVolume(c)
	}
	return volume
}

// momentOf is the sum of the moments of a valid blank: less than 6 * 10^15 in size, so that 1000 times it is an int.
func momentOf(g api.Glass) int {
	moment := 0
	for _, p := range g.Parts {
		moment += partVolume(p) * (p.From + p.To)
	}
	for _, c := range g.Caps {
		moment += capMoment(c)
	}
	return moment
}

// Volume is the volume of a blank, in units of pi/12 cubic millimetres.
func Volume(g api.Glass) (int, api.Errno) {
	if e := CheckGlass(g); e != api.OK {
		return 0, e
	}
	return volumeOf(g), api.OK
}

// Mass is the range of the mass of a blank, in grams.
func Mass(g api.Glass) (api.Range, api.Errno) {
	if e := CheckGlass(g); e != api.OK {
		return api.Range{}, e
	}
	return enclose(g.Density*volumeOf(g), perGram), api.OK
}

// Centre is the range of the height of the centre of a blank, in micrometres.
func Centre(g api.Glass) (api.Range, api.Errno) {
	if e := CheckGlass(g); e != api.OK {
		return api.Range{}, e
	}
	return enclose(1000*momentOf(g), 2*volumeOf(g)), api.OK
}

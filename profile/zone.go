package profile

import "speculum/api"

const maxRadius = 1000000 // radii of zones, in micrometres

// CheckZones tells whether the outer radii of zones are valid.
func CheckZones(radii []int) api.Errno {
	if !isWithin(len(radii), 1, api.MaxZones) {
		return api.ErrShape
	}
	before := 0
	for _, radius := range radii {
		if !isWithin(radius, 1, maxRadius) {
			return api.ErrRange
		}
		if radius <= before {
			return api.ErrOrder
		}
		before = radius
	}
	return api.OK
}

// inner is the inner radius of a zone.
func inner(radii []int, zone int) int {
	if zone == 0 {
		return 0
	}
	return radii[zone-1]
}

// Reduced is the difference of heights that a knife reading says.
func Reduced(radii []int, k api.KnifeReading) (api.HeightReading, api.Errno) {
	if e := CheckZones(radii); e != api.OK {
		return api.HeightReading{}, e
	}
	if !isWithin(k.Zone, 0, len(radii)-2) {
		return api.HeightReading{}, api.ErrMissing
	}
	if !areSmall(api.MaxSlope, k.Slope.Lo, k.Slope.Hi) {
		return api.HeightReading{}, api.ErrRange
	}
	if k.Slope.Lo > k.Slope.Hi {
		return api.HeightReading{}, api.ErrOrder
	}
	// two times the distance of the middles, therefore 2000 where the slope has thousandths
	d := radii[k.Zone+1] - inner(radii, k.Zone)
	diff := api.Range{Lo: down(k.Slope.Lo*d, 2000), Hi: up(k.Slope.Hi*d, 2000)}
	if !areSmall(api.MaxHeight, diff.Lo, diff.Hi) {
		return api.HeightReading{}, api.ErrLarge
	}
	return api.HeightReading{From: k.Zone, To: k.Zone + 1, Diff: diff}, api.OK
}

package number

import "speculum/api"

const (
	quarter = api.Turn / 4
	eighth  = api.Turn / 8
	maxSide = 10000 // x and y of a vector, in size
)

// Sines and cosines are computed as whole numbers of billionths: the product of two of them is an int.
const (
	unit = 1000000000
	pi   = 3141592654 // rounded
	slip = 20         // a computed sine or cosine is less than this from the true one
)

// Sine encloses times multiplied by the sine of an angle.
func Sine(angle, times int) (api.Range, api.Errno) {
	if size(angle) > api.MaxAngle || times < 1 || times > api.MaxTimes {
		return api.Range{}, api.ErrRange
	}
	sine, _ := around(angle)
	return slipped(sine, times), api.OK
}

// Cosine encloses times multiplied by the cosine of an angle.
func Cosine(angle, times int) (api.Range, api.Errno) {
	if size(angle) > api.MaxAngle || times < 1 || times > api.MaxTimes {
		return api.Range{}, api.ErrRange
	}
	_, cosine := around(angle)
	return slipped(cosine, times), api.OK
}

// slipped encloses times multiplied by a sine or cosine. With at most 10^6 times the slip is at most 1/50 on each
// side, so that the ends are at most 2 apart.
func slipped(value, times int) api.Range {
	return api.Range{Lo: down((value-slip)*times, unit), Hi: up((value+slip)*times, unit)}
}

// around is the sine and the cosine of any angle.
func around(angle int) (sine, cosine int) {
	quarters := down(angle, quarter)
	rest := angle - quarters*quarter
	if rest <= eighth {
		sine, cosine = series(rest)
	} else {
		cosine, sine = series(quarter - rest)
	}
	for range quarters & 3 {
		sine, cosine = cosine, -sine
	}
	return sine, cosine
}

// series is the sine and the cosine of an angle from 0 to an eighth of a turn, by their power series. The arc is less
// than 1 off, each of at most 6 terms behind it less than 3, and what is left out is less than 1: together less than
// slip.
func series(angle int) (sine, cosine int) {
	arc := angle * pi / (api.Turn / 2)
	square := arc * arc / unit
	sine, cosine = arc, unit
	odd, even := arc, unit
	for n := 2; even != 0; n += 2 {
		even = -even * square / (unit * (n - 1) * n)
		odd = -odd * square / (unit * n * (n + 1))
		cosine += even
		sine += odd
	}
	return sine, cosine
}

// Angle encloses the direction of a vector.
func Angle(x, y int) (api.Range, api.Errno) {
	if size(x) > maxSide || size(y) > maxSide {
		return api.Range{}, api.ErrRange
	}
	if x == 0 && y == 0 {
		return api.Range{}, api.ErrZero
	}
	turned := 0
	for x <= 0 || y < 0 {
		x, y = y, -x
		turned += quarter
	}
	r := firstQuarter(x, y)
	return api.Range{Lo: r.Lo + turned, Hi: r.Hi + turned}, api.OK
}

// firstQuarter encloses the direction of a vector that lies from 0 to less than a quarter of a turn. It halves the
// quarter, on the side of the vector, until it meets an angle that the slip does not tell from the direction: this is
// less than 1 away.
func firstQuarter(x, y int) api.Range {
	low, high := 0, quarter
	for high-low > 1 {
		middle := (low + high) / 2
		sine, cosine := around(middle)
		ahead, unsure := y*cosine-x*sine, (x+y)*slip
		switch {
		case ahead > unsure:
			low = middle
		case ahead < -unsure:
			high = middle
		default:
			return api.Range{Lo: middle - 1, Hi: middle + 1}
		}
	}
	return api.Range{Lo: low, Hi: high}
}

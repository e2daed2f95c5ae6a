package number_test

import (
	"math"
	"testing"

	"speculum/api"
	"speculum/number"
)

// off is how far floats may be off.
const off = 1e-6

func contains(r api.Range, n int) bool { return r.Lo <= n && n <= r.Hi }

func encloses(r api.Range, x float64) bool {
	return float64(r.Lo) <= x+off && x-off <= float64(r.Hi)
}

func TestP1_4KnownSines(t *testing.T) {
	for _, c := range [][3]int{ // angle, twice the sine, twice the cosine (9: another number)
		{0, 0, 2}, {108000, 1, 9}, {216000, 9, 1}, {324000, 2, 0}, {432000, 9, -1}, {540000, 1, 9}, {648000, 0, -2},
		{756000, -1, 9}, {864000, 9, -1}, {972000, -2, 0}, {1080000, 9, 1}, {1188000, -1, 9},
	} {
		for _, turns := range []int{0, 1, -1, 770, -770} {
			for _, times := range []int{2, 1000, 999998, api.MaxTimes} {
				angle := c[0] + turns*api.Turn
				r, e := number.Sine(angle, times)
				if e != api.OK || r.Hi-r.Lo > 2 || c[1] != 9 && !contains(r, c[1]*times/2) {
					t.Error("sine", angle, times, r, e)
				}
				r, e = number.Cosine(angle, times)
				if e != api.OK || r.Hi-r.Lo > 2 || c[2] != 9 && !contains(r, c[2]*times/2) {
					t.Error("cosine", angle, times, r, e)
				}
			}
		}
	}
}

func TestP1_4AllSines(t *testing.T) {
	for angle := -api.Turn; angle <= api.Turn; angle += 5 {
		sine, cosine := math.Sincos(float64(angle) * math.Pi / 648000)
		for _, times := range []int{1, 1000, api.MaxTimes} {
			r, e := number.Sine(angle, times)
			if e != api.OK || r.Hi-r.Lo > 2 || !encloses(r, sine*float64(times)) {
				t.Fatal("sine", angle, times, r, e)
			}
			if r, e = number.Cosine(angle, times); e != api.OK || r.Hi-r.Lo > 2 || !encloses(r, cosine*float64(times)) {
				t.Fatal("cosine", angle, times, r, e)
			}
		}
	}
}

func TestP1_4SineErrors(t *testing.T) {
	for i, f := range []func(angle, times int) (api.Range, api.Errno){number.Sine, number.Cosine} {
		for _, c := range [][2]int{
			{api.MaxAngle + 1, 1}, {-api.MaxAngle - 1, 1}, {math.MinInt, 1}, {math.MaxInt, 1},
			{0, 0}, {0, -1}, {0, api.MaxTimes + 1}, {0, math.MinInt}, {0, math.MaxInt},
		} {
			if r, e := f(c[0], c[1]); e != api.ErrRange || r != (api.Range{}) {
				t.Error(i, c, r, e)
			}
		}
		for _, angle := range []int{api.MaxAngle, -api.MaxAngle} {
			x := math.Sin(float64(angle%api.Turn+i*324000) * math.Pi / 648000)
			if r, e := f(angle, api.MaxTimes); e != api.OK || r.Hi-r.Lo > 2 || !encloses(r, x*api.MaxTimes) {
				t.Error(i, angle, r, e)
			}
		}
	}
}

func direction(x, y int) float64 {
	d := math.Atan2(float64(y), float64(x)) * 648000 / math.Pi
	if d < 0 {
		d += api.Turn
	}
	return d
}

func TestP1_4KnownDirections(t *testing.T) {
	for _, size := range []int{1, 7, 10000} {
		for i, c := range [][2]int{{1, 0}, {1, 1}, {0, 1}, {-1, 1}, {-1, 0}, {-1, -1}, {0, -1}, {1, -1}} {
			if r, e := number.Angle(size*c[0], size*c[1]); e != api.OK || !contains(r, i*162000) || r.Hi-r.Lo > 2 {
				t.Error(size, c, r, e)
			}
		}
	}
}

func TestP1_4AllDirections(t *testing.T) {
	sides := []int{-10000, -9999, -5774, -5773, 5773, 5774, 9999, 10000}
	for n := -50; n <= 50; n++ {
		sides = append(sides, n)
	}
	for _, x := range sides {
		for _, y := range sides {
			r, e := number.Angle(x, y)
			if x == 0 && y == 0 {
				if e != api.ErrZero || r != (api.Range{}) {
					t.Error(r, e)
				}
			} else if e != api.OK || r.Hi-r.Lo > 2 || !encloses(r, direction(x, y)) {
				t.Fatal(x, y, r, e, direction(x, y))
			}
		}
	}
}

func TestP1_4DirectionErrors(t *testing.T) {
	for _, far := range []int{10001, -10001, math.MaxInt, math.MinInt} {
		for _, c := range [][2]int{{far, 0}, {0, far}, {far, far}, {1, far}} {
			if r, e := number.Angle(c[0], c[1]); e != api.ErrRange || r != (api.Range{}) {
				t.Error(c, r, e)
			}
		}
	}
}

func TestP1_8Circle(t *testing.T) {
	for angle := 0; angle < api.Turn; angle += 997 {
		for _, times := range []int{1, 30, api.MaxTimes} {
			least, greatest := 0, 0
			for _, f := range []func(angle, times int) (api.Range, api.Errno){number.Sine, number.Cosine} {
				r, _ := f(angle, times)
				low, high := r.Lo*r.Lo, r.Hi*r.Hi
				greatest += max(low, high)
				if !contains(r, 0) {
					least += min(low, high)
				}
			}
			if least > times*times || greatest < times*times {
				t.Fatal(angle, times, least, greatest)
			}
		}
	}
}

// The vector lies counterclockwise of the least angle of its direction, and clockwise of the greatest one.
func TestP1_8Directions(t *testing.T) {
	ahead := func(x, y, angle int) api.Range {
		sine, _ := number.Sine(angle, api.MaxTimes)
		cosine, _ := number.Cosine(angle, api.MaxTimes)
		a, _ := number.Product(cosine, span(y, y))
		b, _ := number.Product(sine, span(x, x))
		r, _ := number.Minus(a, b)
		return r
	}
	for x := -30; x <= 30; x++ {
		for y := -30; y <= 30; y++ {
			if r, e := number.Angle(x, y); e == api.OK && (ahead(x, y, r.Lo).Hi < 0 || ahead(x, y, r.Hi).Lo > 0) {
				t.Fatal(x, y, r)
			}
		}
	}
}

package number

import (
	"math"
	"testing"
)

// The promise on the width of sines and directions rests on the slip of the series.
func TestP1_4Slip(t *testing.T) {
	for angle := range eighth + 1 {
		sine, cosine := series(angle)
		trueSine, trueCosine := math.Sincos(float64(angle) * math.Pi / 648000)
		if math.Abs(float64(sine)-trueSine*unit) > slip-1 || math.Abs(float64(cosine)-trueCosine*unit) > slip-1 {
			t.Fatal(angle, sine, cosine)
		}
	}
}

func TestP1_4Rounding(t *testing.T) {
	for n := -50; n <= 50; n++ {
		for by := 1; by <= 12; by++ {
			lo, hi := down(n, by), up(n, by)
			if lo*by > n || (lo+1)*by <= n || hi*by < n || (hi-1)*by >= n {
				t.Error(n, by, lo, hi)
			}
		}
	}
}

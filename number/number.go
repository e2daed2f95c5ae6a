// Package number is chapter 1: fractions, ranges, angles, polynomials. See shared/doc/01-number.md.
package number

import (
	"math/bits"

	"speculum/api"
)

// size is n without its sign. It is a word, because the size of the least int is no int.
func size(n int) uint64 {
	if n < 0 {
		return -uint64(n)
	}
	return uint64(n)
}

// divisor is the greatest common divisor of a and b.
func divisor(a, b uint64) uint64 {
	for b != 0 {
		a, b = b, a%b
	}
	return a
}

// down is n / by, rounded down; by is above 0.
func down(n, by int) int {
	quotient := n / by
	if n%by < 0 {
		quotient--
	}
	return quotient
}

// up is n / by, rounded up; by is above 0.
func up(n, by int) int {
	return -down(-n, by)
}

// enclose is n * num / den, rounded down and up; den is above 0.
// It reports false if this is too great for an end of a range.
func enclose(n, num, den int) (api.Range, bool) {
	high, low := bits.Mul64(size(n), size(num))
	if high >= uint64(den) {
		return api.Range{}, false
	}
	quotient, rest := bits.Div64(high, low, uint64(den))
	if quotient > api.MaxNumber {
		return api.Range{}, false
	}
	near := int(quotient)
	far := near
	if rest > 0 {
		far++
	}
	if (n < 0) != (num < 0) {
		near, far = -far, -near
	}
	r := api.Range{Lo: near, Hi: far}
	return r, CheckRange(r) == api.OK
}

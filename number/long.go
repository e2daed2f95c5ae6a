package number

import (
	"cmp"
	"math/bits"
	"slices"
)

// long is a whole number of any size. The words of its size begin with the least one, and end with one that is not 0;
// 0 has none. They are never changed, so that several numbers may share them.
type long struct {
	below bool // below 0
	words []uint64
}

func longOf(n int) long {
	return long{below: n < 0, words: withoutZeros([]uint64{size(n)})}
}

func (a long) sign() int {
	switch {
	case len(a.words) == 0:
		return 0
	case a.below:
		return -1
	}
	return 1
}

func (a long) opposite() long {
	return long{below: !a.below, words: a.words}
}

func (a long) size() long {
	return long{words: a.words}
}

func (a long) plus(b long) long {
	if a.below == b.below {
		return long{below: a.below, words: wordsPlus(a.words, b.words)}
	}
	if compareWords(a.words, b.words) < 0 {
		a, b = b, a
	}
	return long{below: a.below, words: wordsMinus(a.words, b.words)}
}

func (a long) minus(b long) long {
	return a.plus(b.opposite())
}

func (a long) times(b long) long {
	return long{below: a.below != b.below, words: wordsTimes(a.words, b.words)}
}

// withoutZeros takes away the zeros at the end.
func withoutZeros(words []uint64) []uint64 {
	for len(words) > 0 && words[len(words)-1] == 0 {
		words = words[:len(words)-1]
	}
	return words
}

func compareWords(a, b []uint64) int {
	if len(a) != len(b) {
		return cmp.Compare(len(a), len(b))
	}
	for i, x := range slices.Backward(a) {
		if x != b[i] {
			return cmp.Compare(x, b[i])
		}
	}
	return 0
}

func wordsPlus(a, b []uint64) []uint64 {
	if len(a) < len(b) {
		a, b = b, a
	}
	sum := make([]uint64, len(a)+1)
	carry := uint64(0)
	for i, x := range a {
		y := uint64(0)
		if i < len(b) {
			y = b[i]
		}
		sum[i], carry = bits.Add64(x, y, carry)
	}
	sum[len(a)] = carry
	return withoutZeros(sum)
}

// wordsMinus is a less b; b is not greater than a.
func wordsMinus(a, b []uint64) []uint64 {
	difference := make([]uint64, len(a))
	borrow := uint64(0)
	for i, x := range a {
		y := uint64(0)
		if i < len(b) {
			y = b[i]
		}
		difference[i], borrow = bits.Sub64(x, y, borrow)
	}
	return withoutZeros(difference)
}

func wordsTimes(a, b []uint64) []uint64 {
	product := make([]uint64, len(a)+len(b))
	for i, x := range a {
		carry := uint64(0)
		for j, y := range b {
			// x y with two words more is at most 2^128 - 1, so high never overflows.
			high, low := bits.Mul64(x, y)
			sum, over := bits.Add64(low, product[i+j], 0)
			high += over
			product[i+j], over = bits.Add64(sum, carry, 0)
			carry = high + over
		}
		product[i+len(b)] = carry
	}
	return withoutZeros(product)
}

package path

import (
	"math/bits"
	"slices"

	"cassegrain/number"
)

// square is a natural number below 2^128, as its upper and its lower half: squares of distances over a common denominator do not fit into 64 bits.
// All numbers that arise stay below 2^120: coordinates over a common denominator are below 2^48, their products with an axis below 2^56, and the factors of squares below 2^22.
type square [2]uint64

// squareOf returns the square of x.
func squareOf(x int) square {
	n := uint64(number.Size(x))
	hi, lo := bits.Mul64(n, n)
	return square{hi, lo}
}

func (s square) plus(t square) square {
	lo, carry := bits.Add64(s[1], t[1], 0)
	hi, _ := bits.Add64(s[0], t[0], carry)
	return square{hi, lo}
}

// times returns the product with a natural number.
func (s square) times(n int) square {
	hi, lo := bits.Mul64(s[1], uint64(n))
	return square{hi + s[0]*uint64(n), lo}
}

func (s square) less(t square) bool {
	return slices.Compare(s[:], t[:]) < 0
}

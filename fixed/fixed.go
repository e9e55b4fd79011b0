// Package fixed is layer 1: see shared/doc/01-fixed.md.
package fixed

import (
	"math"
	"math/bits"

	"breccia/api"
)

// wholes is the greatest whole number that has a fixed one.
const wholes = api.MaxFixed / api.One

// Cut is a number within the bounds.
func Cut(n int) int { return min(max(n, -api.MaxFixed), api.MaxFixed) }

// Add is a sum.
func Add(a, b int) int { return Cut(Cut(a) + Cut(b)) }

// Sub is a difference.
func Sub(a, b int) int { return Cut(Cut(a) - Cut(b)) }

// Mul is a product.
func Mul(a, b int) int { return share(Cut(a), Cut(b), api.One) }

// Div is a quotient.
func Div(a, b int) (int, api.Errno) {
	if b == 0 {
		return 0, api.ErrArg
	}
	return share(Cut(a), api.One, Cut(b)), api.OK
}

// Sum is a sum, if it is within the bounds.
func Sum(a, b int) (int, api.Errno) {
	n := Cut(a) + Cut(b)
	if n != Cut(n) {
		return 0, api.ErrRange
	}
	return n, api.OK
}

// Floor is the whole number below.
func Floor(n int) int { return (Cut(n) - Frac(n)) / api.One }

// Frac is what a number is more.
func Frac(n int) int { return Cut(n) & (api.One - 1) }

// Of is the fixed number of a whole one.
func Of(cell int) int { return min(max(cell, -wholes), wholes) * api.One }

// From is a float's fixed number.
func From(f float64) (int, api.Errno) {
	switch {
	case math.IsNaN(f):
		return 0, api.ErrArg
	case f > wholes:
		return api.MaxFixed, api.ErrRange
	case f < -wholes:
		return -api.MaxFixed, api.ErrRange
	}
	// One is a power of two, so the product is exact, and what is rounded is f itself.
	return int(math.Floor(f * api.One)), api.OK
}

// Float is what a number means.
func Float(n int) float64 { return float64(Cut(n)) / api.One }

// Toward is a number that is moved.
func Toward(n, to, by int) int {
	n, to, by = Cut(n), Cut(to), max(Cut(by), 0)
	if n < to {
		return min(n+by, to)
	}
	return max(n-by, to)
}

// share is a times b over c, rounded down and cut; all three are fixed numbers, and c is not 0.
// The product may be wider than an int, so it is made of sizes in two words, and its sign is put on last.
func share(a, b, c int) int {
	below := (a ^ b ^ c) < 0
	round := func(quo, rest uint64) int {
		n := int(min(quo, api.MaxFixed))
		if !below {
			return n
		}
		if rest > 0 {
			n++
		}
		return Cut(-n)
	}
	high, low := bits.Mul64(size(a), size(b))
	over := size(c)
	if high >= over { // the quotient is wider than a word, far beyond the bounds
		return round(math.MaxUint64, 0)
	}
	quo, rest := bits.Div64(high, low, over)
	return round(quo, rest)
}

// size is how far a fixed number is from 0.
func size(n int) uint64 { return uint64(max(n, -n)) }

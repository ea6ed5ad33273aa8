// Package wide is layer 1: see shared/doc/01-wide.md.
package wide

import (
	"cmp"
	"math/bits"

	"demurrage/api"
)

// Of is a number as a wide one.
func Of(n uint64) api.Wide { return api.Wide{Lo: n} }

// Mul is the product of two numbers.
func Mul(a, b uint64) api.Wide {
	high, low := bits.Mul64(a, b)
	return api.Wide{Hi: high, Lo: low}
}

// Times is the product of a wide number and another one.
func Times(x api.Wide, n uint64) (api.Wide, api.Errno) {
	a := split(x)
	return fit(upward(func(place int, carry uint64) (half, next uint64) {
		high, low := bits.Mul64(a[place], n)
		low, over := bits.Add64(low, carry, 0)
		// A product's high half is at most 2^64 - 2: there is room for over.
		return low, high + over
	}))
}

// Add is the sum of two.
func Add(x, y api.Wide) (api.Wide, api.Errno) {
	a, b := split(x), split(y)
	return fit(upward(func(place int, carry uint64) (half, next uint64) {
		return bits.Add64(a[place], b[place], carry)
	}))
}

// Sub is one less another one.
func Sub(x, y api.Wide) (api.Wide, api.Errno) {
	a, b := split(x), split(y)
	return fit(upward(func(place int, carry uint64) (half, next uint64) {
		return bits.Sub64(a[place], b[place], carry)
	}))
}

// Cmp is how two lie to each other.
func Cmp(x, y api.Wide) int {
	if x.Hi != y.Hi {
		return cmp.Compare(x.Hi, y.Hi)
	}
	return cmp.Compare(x.Lo, y.Lo)
}

// Div is how often a number goes into a wide one, and what is left.
func Div(x api.Wide, d uint64) (api.Wide, uint64, api.Errno) {
	if d == 0 {
		return api.Wide{}, 0, api.ErrZero
	}
	a := split(x)
	often, left := downward(func(place int, carry uint64) (half, next uint64) {
		// The carry is 0 or what a division by d left, so below d: Div64 can't panic.
		return bits.Div64(carry, a[place], d)
	})
	return join(often), left, api.OK
}

// Package fix is layer 1: fixed-point arithmetic (shared/doc/01-fix.md).
package fix

import "math/bits"

const (
	point      = 15      // digits behind the point of a product's factors
	mulBound   = 1 << 31 // factors up to here have a product that an int holds
	maxCut     = 62      // the most digits that a number is cut to
	rootBits   = 32      // the digits of the greatest int's root
	shiftBound = 1 << 40 // numbers up to here may be shifted
	maxDown    = 40      // the most digits that fall away in a shift
	maxUp      = 20      // the most digits that a shift adds
)

// Mul answers the product of 15 bits of a and b, or 0 if one of them is out of bounds.
func Mul(a, b int) int {
	if !within(a, mulBound) || !within(b, mulBound) {
		return 0
	}
	return halfUp(a*b, point)
}

// Cut answers x cut to n bits, or x itself if there are no such bits.
func Cut(x, n int) int {
	if n < 1 || n > maxCut {
		return x
	}
	edge := 1 << (n - 1)
	return max(-edge, min(x, edge-1))
}

// Length answers how many binary digits x has, its sign aside.
func Length(x int) int {
	if x < 0 {
		// The least int stays below 0 here; as a uint it is 2^63, as it should be.
		x = -x
	}
	return bits.Len(uint(x))
}

// Root answers the greatest whole number whose square is no greater than x, or 0 if x is below 0.
func Root(x int) int {
	if x < 0 {
		return 0
	}
	// The squares that are tried may exceed the greatest int, but no uint64.
	whole, root := uint64(x), uint64(0)
	for i := range rootBits {
		tried := root | 1<<(rootBits-1-i)
		if tried*tried <= whole {
			root = tried
		}
	}
	return int(root)
}

// Shift answers x by 2^n, to the nearest whole number, or 0 if x or n is out of bounds.
func Shift(x, n int) int {
	switch {
	case !within(x, shiftBound) || n < -maxUp || n > maxDown:
		return 0
	case n > 0:
		return halfUp(x, n)
	default:
		return x << -n
	}
}

// within tells whether x is from -bound to bound; it asks both ways, as the least int has no negative.
func within(x, bound int) bool {
	return -bound <= x && x <= bound
}

// halfUp answers x by 2^n, n above 0: what the added half carries over, the shift keeps, since it rounds down.
func halfUp(x, n int) int {
	return (x + 1<<(n-1)) >> n
}

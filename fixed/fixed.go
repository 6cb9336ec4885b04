// Package fixed: fixed-point arithmetic with directed rounding (chapter 1).
package fixed

import (
	"math/bits"

	"armplan/api"
)

// fraction is the number of binary places of a fixed-point number: api.One is 1 << fraction.
const fraction = 16

// Clamp returns the number from -Max to Max that is nearest to a.
func Clamp(a int64) int64 {
	return min(max(a, -api.Max), api.Max)
}

// MulDown returns the product of the clamped numbers, rounded down.
func MulDown(a, b int64) int64 {
	return Clamp(a) * Clamp(b) >> fraction
}

// MulUp returns the product of the clamped numbers, rounded up.
func MulUp(a, b int64) int64 {
	return -(-Clamp(a) * Clamp(b) >> fraction)
}

// DivDown returns the quotient of the clamped numbers, rounded down; false if b is 0.
func DivDown(a, b int64) (int64, bool) {
	if b == 0 {
		return 0, false
	}
	return floorDiv(Clamp(a)<<fraction, Clamp(b)), true
}

// DivUp returns the quotient of the clamped numbers, rounded up; false if b is 0.
func DivUp(a, b int64) (int64, bool) {
	if b == 0 {
		return 0, false
	}
	return -floorDiv(-Clamp(a)<<fraction, Clamp(b)), true
}

// floorDiv returns floor(p / q) for a q other than 0, where Go's division rounds towards 0.
func floorDiv(p, q int64) int64 {
	quotient := p / q
	if p%q != 0 && (p < 0) != (q < 0) {
		quotient--
	}
	return quotient
}

// Root returns the greatest integer whose square is at most n, or 0 if n is negative.
func Root(n int64) int64 {
	if n < 0 {
		return 0
	}
	// The square of a candidate is below 2^64 and may exceed the range of int64.
	square := uint64(n)
	digits := (bits.Len64(square) + 1) / 2
	root, step := uint64(0), uint64(1)<<digits
	for range digits {
		step /= 2
		if next := root + step; next*next <= square {
			root = next
		}
	}
	return int64(root)
}

// RootUp returns the least integer from 0 on whose square is at least n.
func RootUp(n int64) int64 {
	root := Root(n)
	if root*root < n {
		root++
	}
	return root
}

// SqrtDown returns the root of the clamped number, rounded down; a negative number counts as 0.
func SqrtDown(a int64) int64 {
	return Root(max(Clamp(a), 0) << fraction)
}

// SqrtUp returns the root of the clamped number, rounded up; a negative number counts as 0.
func SqrtUp(a int64) int64 {
	return RootUp(max(Clamp(a), 0) << fraction)
}

// ShiftDown returns floor(a / 2^k), or a if k is negative.
func ShiftDown(a int64, k int) int64 {
	if k < 0 {
		return a
	}
	return a >> k
}

// ShiftUp returns ceil(a / 2^k), or a if k is negative.
func ShiftUp(a int64, k int) int64 {
	down := ShiftDown(a, k)
	// Not -ShiftDown(-a, k): the least int64 has no negation. From k = 64 on, shifting back yields 0.
	if k > 0 && down<<k != a {
		down++
	}
	return down
}

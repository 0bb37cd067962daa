// Package satur is layer 1: saturating and exact integer arithmetic.
package satur

import (
	"math/bits"

	"sketchstore/api"
)

const maxQuotient = 1 << 62

// Add returns the smaller one of a + b and most, and whether a + b is greater.
func Add(a, b, most int) (n int, full bool) {
	// Both words are below 2^63, so their sum fits into a word.
	return saturate(0, word(a)+word(b), most)
}

// Mul returns the smaller one of a * b and most, and whether a * b is greater.
func Mul(a, b, most int) (n int, full bool) {
	high, low := bits.Mul64(word(a), word(b))
	return saturate(high, low, most)
}

// MulDiv returns a * b / c, rounded toward negative infinity.
func MulDiv(a, b, c int) (int, api.Errno) {
	if a < 0 || b < 0 || c < 1 {
		return 0, api.ErrRange
	}
	high, low := bits.Mul64(uint64(a), uint64(b))
	divisor := uint64(c)
	if high >= divisor {
		// The quotient does not fit into a word; Div64 would panic.
		return 0, api.ErrRange
	}
	quotient, _ := bits.Div64(high, low, divisor)
	if quotient > maxQuotient {
		return 0, api.ErrRange
	}
	return int(quotient), api.OK
}

// CeilDiv returns the smallest integer that is at least a / b.
func CeilDiv(a, b int) (int, api.Errno) {
	if a < 0 || b < 1 {
		return 0, api.ErrRange
	}
	// The usual (a + b - 1) / b could overflow.
	n := a / b
	if a%b > 0 {
		n++
	}
	return n, api.OK
}

// LeadingZeros returns the number of zero bits above the highest bit of x
// that is 1, and 64 for x = 0.
func LeadingZeros(x uint64) int {
	return bits.LeadingZeros64(x)
}

// Powers returns the exponents of the powers of two whose sum is n, ascending.
func Powers(n int) []int {
	var exponents []int
	for rest := word(n); rest > 0; rest &= rest - 1 {
		exponents = append(exponents, bits.TrailingZeros64(rest))
	}
	return exponents
}

func word(n int) uint64 {
	return uint64(max(n, 0))
}

// saturate limits the number of the two words high and low to most.
func saturate(high, low uint64, most int) (n int, full bool) {
	limit := word(most)
	if high > 0 || low > limit {
		return int(limit), true
	}
	return int(low), false
}

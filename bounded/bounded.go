// Package bounded reckons with numbers that end at the ends: what would lie beyond the greatest or the least int64 is that one.
package bounded

import "math"

func Sum(x, y int64) int64 {
	switch {
	case y > 0 && x > math.MaxInt64-y:
		return math.MaxInt64
	case y < 0 && x < math.MinInt64-y:
		return math.MinInt64
	}
	return x + y
}

// Difference is not the sum with the negative: the negative of the least number ends one too early for that.
func Difference(x, y int64) int64 {
	switch {
	case y < 0 && x > math.MaxInt64+y:
		return math.MaxInt64
	case y > 0 && x < math.MinInt64+y:
		return math.MinInt64
	}
	return x - y
}

func Negative(x int64) int64 { return Difference(0, x) }

func Product(x, y int64) int64 {
	p := x * y
	// The least number by -1 wraps round to itself, so the division alone would not show it.
	wraps := x == -1 && y == math.MinInt64
	if x == 0 || p/x == y && !wraps {
		return p
	}
	if (x < 0) == (y < 0) {
		return math.MaxInt64
	}
	return math.MinInt64
}

// Quotient is rounded down; y is not 0.
func Quotient(x, y int64) int64 {
	if y == -1 {
		return Negative(x)
	}
	q := x / y
	// Go rounds towards 0.
	if x%y != 0 && (x < 0) != (y < 0) {
		q--
	}
	return q
}

// Package whole is layer 1, whole numbers as text: see shared/doc/01-whole.md.
package whole

import (
	"math"
	"strconv"

	"nearhand/api"
)

// Text: a number's digits.
func Text(n int64) string { return strconv.FormatInt(n, 10) }

// Parse: the number of digits.
func Parse(s string) (int64, api.Errno) {
	n, err := strconv.ParseInt(s, 10, 64)
	// The library also takes a plus, a minus ahead of 0, and zeros ahead of
	// other digits: a number's own text alone comes out again as it went in.
	if err != nil || Text(n) != s {
		return 0, api.ErrWhole
	}
	return n, api.OK
}

// Add: both together.
func Add(a, b int64) (int64, api.Errno) {
	// The room left is asked for ahead of the sum, which would wrap round.
	if b > 0 && a > math.MaxInt64-b || b < 0 && a < math.MinInt64-b {
		return 0, api.ErrOver
	}
	return a + b, api.OK
}

// Neg: nothing less it.
func Neg(a int64) (int64, api.Errno) {
	// The least number alone has no counterpart above 0.
	if a == math.MinInt64 {
		return 0, api.ErrOver
	}
	return -a, api.OK
}

// Size: how many bytes its digits have.
func Size(n int64) int {
	size := 1
	if n < 0 {
		size++
	}
	for n /= 10; n != 0; n /= 10 {
		size++
	}
	return size
}

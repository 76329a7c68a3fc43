// Package sat is layer 1: see shared/doc/01-sat.md.
package sat

import (
	"math"
	"math/bits"
)

// Clamp is a number within two. The low end is asked first: where the ends are crossed, that is what counts.
func Clamp(x, low, high int) int {
	if x < low {
		return low
	}
	if x > high {
		return high
	}
	return x
}

// Fits tells whether a number is within the ends of bits.
func Fits(x, bits int) bool {
	low, high, ok := ends(bits)
	return ok && low <= x && x <= high
}

// Sat is a number, clamped to the ends of bits.
func Sat(x, bits int) int {
	low, high, ok := ends(bits)
	if !ok {
		return 0
	}
	return Clamp(x, low, high)
}

// Add adds numbers in order, and stops at the ends of bits each time.
func Add(bits int, xs ...int) int {
	low, high, ok := ends(bits)
	if !ok {
		return 0
	}
	total := 0
	next := func(x int) {
		total = Clamp(plus(total, x), low, high)
	}
	for _, x := range xs {
		next(x)
	}
	return total
}

// Sum is the sum of all, if it is within the ends of 64 bits. It is kept in 128 bits, so that only the whole of it matters, and not its parts.
func Sum(xs ...int) (int, bool) {
	top, rest := 0, uint64(0)
	next := func(x int) {
		sum, carry := bits.Add64(rest, uint64(x), 0)
		rest = sum
		top += x>>63 + int(carry)
	}
	for _, x := range xs {
		next(x)
	}
	return narrow(top, rest)
}

// Mul is the product, if it is within the ends of 64 bits.
func Mul(a, b int) (int, bool) {
	upper, rest := bits.Mul64(uint64(a), uint64(b))
	top := int(upper)
	// A number below 0 was taken for one that is greater by 2^64: what that put into the upper half is taken off again.
	if a < 0 {
		top -= b
	}
	if b < 0 {
		top -= a
	}
	return narrow(top, rest)
}

// ends are those of bits, where bits have any.
func ends(bits int) (low, high int, ok bool) {
	if bits < 1 || bits > 64 {
		return 0, 0, false
	}
	low = -1 << (bits - 1)
	return low, ^low, true
}

// plus is a sum that stops at the ends of 64 bits: what a clamp within them makes of it is the same as of the exact sum.
func plus(a, b int) int {
	switch {
	case b > 0 && a > math.MaxInt-b:
		return math.MaxInt
	case b < 0 && a < math.MinInt-b:
		return math.MinInt
	}
	return a + b
}

// narrow is a number of 128 bits, in two halves, if 64 hold it: its upper half is then nothing but the sign of the lower one.
func narrow(top int, rest uint64) (int, bool) {
	x := int(rest)
	if top != x>>63 {
		return 0, false
	}
	return x, true
}

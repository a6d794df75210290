package wide

import (
	"math/bits"

	"twinspan/api"
)

// Add is the sum of a and b; 0 and false, if it is no number.
func Add(a, b api.Wide) (api.Wide, bool) {
	var carry uint64
	for i := range len(a) {
		a[i], carry = bits.Add64(a[i], b[i], carry)
	}
	return within(a, carry)
}

// Sub is a without b; 0 and false, if it is no number.
func Sub(a, b api.Wide) (api.Wide, bool) {
	var borrow uint64
	for i := range len(a) {
		a[i], borrow = bits.Sub64(a[i], b[i], borrow)
	}
	return within(a, borrow)
}

// Times is a, n times; 0 and false, if it is no number.
func Times(a api.Wide, n uint64) (api.Wide, bool) {
	var above uint64
	for i := range len(a) {
		high, low := bits.Mul64(a[i], n)
		var carry uint64
		a[i], carry = bits.Add64(low, above, 0)
		// The high half of a product is never 2^64 - 1, so that the carry has its place there.
		above = high + carry
	}
	return within(a, above)
}

// within is a and true, if nothing is left above it (or lacks there).
func within(a api.Wide, above uint64) (api.Wide, bool) {
	if above != 0 {
		return api.Wide{}, false
	}
	return a, true
}

// Part is a divided by n, and the rest; 0 and 0, if n is 0.
func Part(a api.Wide, n uint64) (api.Wide, uint64) {
	if n == 0 {
		return api.Wide{}, 0
	}
	var rest uint64
	for i := range len(a) {
		at := len(a) - 1 - i
		a[at], rest = bits.Div64(rest, a[at], n)
	}
	return a, rest
}

// Sum is the sum of all; 0 and false, if it is no number.
func Sum(l ...api.Wide) (api.Wide, bool) {
	var sum api.Wide
	for _, a := range l {
		// Nothing is below 0: what is too great once stays so.
		next, ok := Add(sum, a)
		if !ok {
			return api.Wide{}, false
		}
		sum = next
	}
	return sum, true
}

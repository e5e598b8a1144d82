package dist

import (
	"math/bits"

	"indenture/api"
)

// Add tells d and n together, modulo 2^128.
func Add(d api.Dist, n uint64) api.Dist {
	lo, carry := bits.Add64(d.Lo, n, 0)
	hi, _ := bits.Add64(d.Hi, 0, carry)
	return api.Dist{Hi: hi, Lo: lo}
}

// Sum tells all of l together.
func Sum(l []uint64) api.Dist {
	return together(len(l), func(i int) uint64 { return l[i] })
}

// Cmp tells by -1, 0 or 1 whether a is less than b, the same, or more.
func Cmp(a, b api.Dist) int {
	switch {
	case a == b:
		return 0
	case a.Hi < b.Hi, a.Hi == b.Hi && a.Lo < b.Lo:
		return -1
	}
	return 1
}

// Text tells a distance in decimal digits.
func Text(d api.Dist) string {
	var digits []byte
	for len(digits) == 0 || d != (api.Dist{}) {
		var digit uint64
		d, digit = tenth(d)
		digits = append(digits, '0'+byte(digit))
	}
	turn(digits)
	return string(digits)
}

// tenth tells how often 10 is in d, and what is left.
func tenth(d api.Dist) (api.Dist, uint64) {
	hi, left := bits.Div64(0, d.Hi, 10)
	lo, left := bits.Div64(left, d.Lo, 10)
	return api.Dist{Hi: hi, Lo: lo}, left
}

// turn turns digits around, as dividing tells the last one first.
func turn(digits []byte) {
	last := len(digits) - 1
	for i := range len(digits) / 2 {
		digits[i], digits[last-i] = digits[last-i], digits[i]
	}
}

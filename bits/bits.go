// Package bits is layer 1: fields of words, see shared/doc/01-bits.md.
package bits

import "beltway/api"

// wordBits is the number of bits of a word.
const wordBits = 64

// Limits of the arguments of Ceil: within them no sum overflows.
const (
	maxCeilNumber = 1 << 40
	maxCeilShift  = 20
)

// Mask returns the word in which exactly the lowest width bits are set: none for a negative width, all for one greater than 64.
func Mask(width int) uint64 {
	if width < 0 {
		return 0
	}
	// A shift by 64 or more leaves 0, and 0 - 1 has all bits set: full words need no case of their own.
	return uint64(1)<<uint(width) - 1
}

// Fits reports whether v has no bit beyond Mask(width).
func Fits(v uint64, width int) bool {
	return v&^Mask(width) == 0
}

// Get returns the field of width bits from bit at on.
func Get(w uint64, at, width int) (uint64, api.Errno) {
	if !isField(at, width) {
		return 0, api.ErrArg
	}
	return w >> uint(at) & Mask(width), api.OK
}

// Put returns w with the field of width bits from bit at on replaced by v.
func Put(w uint64, at, width int, v uint64) (uint64, api.Errno) {
	if !isField(at, width) {
		return 0, api.ErrArg
	}
	if !Fits(v, width) {
		return 0, api.ErrField
	}
	others := w &^ (Mask(width) << uint(at))
	return others | v<<uint(at), api.OK
}

// Log returns k and true if n is 2^k.
func Log(n int) (int, bool) {
	// Clearing the lowest set bit leaves 0 only for a power of two; the least int would pass this, so n must be positive.
	if n <= 0 || n&(n-1) != 0 {
		return 0, false
	}
	k := 0
	for n > 1 {
		n >>= 1
		k++
	}
	return k, true
}

// Ceil returns n / 2^shift rounded up, and 0 for arguments out of its ranges.
func Ceil(n, shift int) int {
	if n < 0 || n > maxCeilNumber || shift < 0 || shift > maxCeilShift {
		return 0
	}
	size := 1 << uint(shift)
	return (n + size - 1) >> uint(shift)
}

// isField reports whether a word has a field of width bits from bit at on.
func isField(at, width int) bool {
	// No int may hold the sum of at and width, so it is not computed; the difference is in range once at is not negative.
	return at >= 0 && width >= 0 && width <= wordBits-at
}

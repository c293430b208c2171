// Package bits is layer 1: sums of bytes with their carries (shared/doc/01-bits.md).
package bits

import "math/bits"

// Parity reports whether the number of bits of b that are 1 is even.
func Parity(b byte) bool {
	return bits.OnesCount8(b)%2 == 0
}

// Majority reports whether at least two of a, b and c are true.
func Majority(a, b, c bool) bool {
	return a && b || a && c || b && c
}

// Sum returns a + b and the carry: out is the carry of bit 7, half that of bit 3, and over the overflow of signed bytes.
func Sum(a, b byte, carry bool) (r byte, out, half, over bool) {
	c := number(carry)
	total := int(a) + int(b) + c
	r = byte(total)
	out = total > 255
	half = nibble(a)+nibble(b)+c > 15
	over = overflows(signed(a) + signed(b) + c)
	return
}

// Difference returns a - b and the borrow: out is the borrow of bit 7, and over the overflow of signed bytes.
// As on the chips, which add the complement, half is the carry of bit 3, so it is true if there is no borrow.
func Difference(a, b byte, borrow bool) (r byte, out, half, over bool) {
	c := number(borrow)
	total := int(a) - int(b) - c
	r = byte(total)
	out = total < 0
	half = nibble(a)+(15-nibble(b))+(1-c) > 15
	over = overflows(signed(a) - signed(b) - c)
	return
}

// Join returns the word of two bytes.
func Join(high, low byte) uint16 {
	return uint16(high)<<8 | uint16(low)
}

func number(carry bool) int {
	if carry {
		return 1
	}
	return 0
}

func nibble(b byte) int { return int(b & 15) }

func signed(b byte) int { return int(int8(b)) }

func overflows(n int) bool { return n < -128 || n > 127 }

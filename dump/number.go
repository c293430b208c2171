package dump

import "strings"

const hexDigits = "0123456789abcdef"

// The numbers of digits of Addr and Data.
const (
	addrDigits = 4
	dataDigits = 2
)

// appendNumber appends a blank and the given number of digits of a value, the highest one first.
func appendNumber(text []byte, value, digits int) []byte {
	text = append(text, blank...)
	for shift := 4 * (digits - 1); shift >= 0; shift -= 4 {
		text = append(text, hexDigits[value>>shift&0x0F])
	}
	return text
}

// cutNumber returns the value of the digits that follow a blank at the beginning of s, and what follows them, or reports
// false if s does not begin with a blank and as many digits.
func cutNumber(s string, digits int) (value int, rest string, ok bool) {
	s, ok = strings.CutPrefix(s, blank)
	if !ok || len(s) < digits {
		return 0, "", false
	}
	for i := range digits {
		digit := strings.IndexByte(hexDigits, s[i])
		if digit < 0 {
			return 0, "", false
		}
		value = value<<4 | digit
	}
	return value, s[digits:], true
}

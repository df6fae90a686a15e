// Package ascii has what several layers ask of single bytes. It is no layer itself.
package ascii

import "strings"

const digits = "0123456789ABCDEF"

// Lower puts a to z in the place of A to Z; unlike the library's own it touches no other sign, so that no foreign letter becomes one of a name.
func Lower(s string) string {
	out := []byte(s)
	for i, c := range out {
		if 'A' <= c && c <= 'Z' {
			out[i] = c + ('a' - 'A')
		}
	}
	return string(out)
}

// Letter tells whether a byte is one of a to z or A to Z.
func Letter(c byte) bool {
	return 'a' <= c && c <= 'z' || 'A' <= c && c <= 'Z'
}

// Plain tells whether a byte is a letter, a digit, or one of marks.
func Plain(c byte, marks string) bool {
	return Letter(c) || '0' <= c && c <= '9' || strings.IndexByte(marks, c) >= 0
}

// AllPlain tells whether each byte of s is so.
func AllPlain(s, marks string) bool {
	for i := range len(s) {
		if !Plain(s[i], marks) {
			return false
		}
	}
	return true
}

// Within tells whether each byte of s is one from low to high.
func Within(s string, low, high byte) bool {
	for i := range len(s) {
		if s[i] < low || s[i] > high {
			return false
		}
	}
	return true
}

// Control tells whether a byte of s is a control sign: one below 32, or a 127.
func Control(s string) bool {
	for i := range len(s) {
		if s[i] < ' ' || s[i] == 0x7f {
			return true
		}
	}
	return false
}

// Hex is a byte as two hexadecimal digits.
func Hex(c byte) string {
	return string([]byte{digits[c>>4], digits[c&15]})
}

// FromHex is the byte of the two hexadecimal digits, of either size, that s begins with; false: it begins with none.
func FromHex(s string) (byte, bool) {
	if len(s) < 2 {
		return 0, false
	}
	high, ok := digit(s[0])
	low, also := digit(s[1])
	if !ok || !also {
		return 0, false
	}
	return high<<4 | low, true
}

// digit is the number of a hexadecimal digit of either size; false: it is none.
func digit(c byte) (byte, bool) {
	if 'a' <= c && c <= 'f' {
		c -= 'a' - 'A'
	}
	for i, r := range digits {
		if r == rune(c) {
			return byte(i), true
		}
	}
	return 0, false
}

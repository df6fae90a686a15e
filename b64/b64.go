// Package b64 is layer 1, base64 as mail has it: see shared/doc/01-b64.md.
package b64

import "strings"

const (
	letters    = "ABCDEFGHIJKLMNOPQRSTUVWXYZabcdefghijklmnopqrstuvwxyz0123456789+/"
	letterBits = 6
	byteBits   = 8
	lineEnd    = "\r\n"
)

// Encode writes three bytes as four letters, and fills up what is left of them with `=`.
func Encode(s string) string {
	out := make([]byte, 0, (len(s)+2)/3*4)
	put := gather(letterBits, func(piece uint) { out = append(out, letters[piece]) })
	waiting := 0
	for i := range len(s) {
		waiting = put(uint(s[i]), byteBits)
	}
	if waiting > 0 {
		put(0, letterBits-waiting)
	}
	for len(out)%4 != 0 {
		out = append(out, '=')
	}
	return string(out)
}

// Wrap is Encode with a line's end between each two stretches of width bytes.
func Wrap(s string, width int) string {
	width = max(width, 1)
	var out strings.Builder
	rest := Encode(s)
	for len(rest) > width {
		out.WriteString(rest[:width])
		out.WriteString(lineEnd)
		rest = rest[width:]
	}
	out.WriteString(rest)
	return out.String()
}

// Decode reads the letters ahead of the first `=`, whatever else stands between them.
func Decode(s string) string {
	body, _, _ := strings.Cut(s, "=")
	out := make([]byte, 0, len(body)/4*3+2)
	put := gather(byteBits, func(piece uint) { out = append(out, byte(piece)) })
	for i := range len(body) {
		if n, ok := number(body[i]); ok {
			put(n, letterBits)
		}
	}
	return string(out)
}

// gather makes a function that takes bits in, the highest one first, and hands them on size at a time; it tells how many of them are still waiting.
func gather(size int, hand func(piece uint)) func(piece uint, bits int) int {
	waiting, have := uint(0), 0
	return func(piece uint, bits int) int {
		waiting = waiting<<bits | piece
		have += bits
		for have >= size {
			have -= size
			hand(waiting >> have)
			waiting &= 1<<have - 1
		}
		return have
	}
}

// number is the one that a letter stands for; false: it is no letter.
func number(c byte) (uint, bool) {
	switch {
	case 'A' <= c && c <= 'Z':
		return uint(c - 'A'), true
	case 'a' <= c && c <= 'z':
		return uint(c-'a') + 26, true
	case '0' <= c && c <= '9':
		return uint(c-'0') + 52, true
	case c == '+':
		return 62, true
	case c == '/':
		return 63, true
	}
	return 0, false
}

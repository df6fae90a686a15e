// Package qp is layer 2, quoted-printable: see shared/doc/02-qp.md.
package qp

import "muslin/ascii"

const (
	maxLine  = 75
	softEnd  = "=\n"
	blankHex = "=20"
)

// Encode writes bytes as signs that mail lets through, in lines that are not too long.
func Encode(s string) string {
	out := make([]byte, 0, len(s)+len(s)/8)
	line := 0
	for i := range len(s) {
		sign := written(s[i], i == len(s)-1)
		if line+len(sign) > maxLine {
			out = append(guardBlank(out), softEnd...)
			line = 0
		}
		line += len(sign)
		out = append(out, sign...)
	}
	return string(out)
}

// written is what stands for a byte, as long as no break comes behind it.
func written(c byte, last bool) string {
	if plain(c) && !(c == ' ' && last) {
		return string([]byte{c})
	}
	return "=" + ascii.Hex(c)
}

// plain tells whether a byte may stand for itself.
func plain(c byte) bool {
	return ' ' <= c && c <= '~' && c != '='
}

// guardBlank writes a blank at the end of a line as a code: mail may lose it otherwise.
func guardBlank(line []byte) []byte {
	last := len(line) - 1
	if last < 0 || line[last] != ' ' {
		return line
	}
	return append(line[:last], blankHex...)
}

// Decode reads codes and line ends; what is neither well written nor white at a line's end stands for itself.
func Decode(s string) string {
	out := make([]byte, 0, len(s))
	for i := 0; i < len(s); {
		if s[i] == '=' {
			code, size := equals(s[i:])
			out = append(out, code...)
			i += size
			continue
		}
		// A row of white is looked at once, as a whole, so that long ones take no longer than their length.
		row := white(s[i:])
		end := i + row
		if row == 0 {
			end = i + 1
		} else if end == len(s) || lineEnd(s[end:]) > 0 {
			i = end
		}
		out = append(out, s[i:end]...)
		i = end
	}
	return string(out)
}

// equals reads the `=` that s begins with: the bytes that it stands for, and how many bytes of s belong to it.
func equals(s string) (string, int) {
	if c, ok := ascii.FromHex(s[1:]); ok {
		return string([]byte{c}), 3
	}
	behind := 1 + white(s[1:])
	if end := lineEnd(s[behind:]); end > 0 {
		return "", behind + end
	}
	return "=", 1
}

// white is how many blanks and tabs s begins with.
func white(s string) int {
	n := 0
	for n < len(s) && (s[n] == ' ' || s[n] == '\t') {
		n++
	}
	return n
}

// lineEnd is how many bytes the line's end has that s begins with; 0: it begins with none.
func lineEnd(s string) int {
	switch {
	case len(s) > 0 && s[0] == '\n':
		return 1
	case len(s) > 1 && s[0] == '\r' && s[1] == '\n':
		return 2
	}
	return 0
}

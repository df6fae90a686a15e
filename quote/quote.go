// Package quote has what several layers ask of quoted texts in a header. It is no layer itself.
package quote

import "strings"

const (
	sign = `"`
	pair = `\`
)

// Read reads the quoted stretch that s begins with: what it says, and how many bytes it has with its signs; 0: s begins with none. One that nothing ends goes to the end of s, where a `\` with nothing behind it says nothing.
func Read(s string) (string, int) {
	if !strings.HasPrefix(s, sign) {
		return "", 0
	}
	var out []byte
	paired := false // whether a byte belongs to the `\` ahead of it, and so ends nothing
	for i := 1; i < len(s); i++ {
		c := s[i]
		if !paired && c == sign[0] {
			return string(out), i + 1
		}
		paired = !paired && c == pair[0]
		if !paired {
			out = append(out, c)
		}
	}
	return string(out), len(s)
}

// Write writes a text as a quoted stretch, which Read reads.
func Write(s string) string {
	return sign + strings.NewReplacer(sign, pair+sign, pair, pair+pair).Replace(s) + sign
}

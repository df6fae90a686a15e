package parts

import (
	"strings"

	"muslin/lines"
)

const (
	dashes = "--"
	white  = " \t"
)

// lineKind is what a line is, held against a boundary.
type lineKind int

const (
	other   lineKind = iota // stands in a piece, or in none
	divider                 // a boundary's line
	closer                  // the last one, if it stands behind a divider
)

// Cut are the pieces of a body between lines of a boundary.
func Cut(body string, boundary string) []string {
	if boundary == "" {
		return nil
	}
	var out []string
	mark := dashes + boundary
	open := false // whether there was a divider
	begin := 0    // what stands behind the last one
	at := 0       // the line that is looked at
	for _, line := range lines.Cut(body) {
		kind := lineKindOf(line, mark)
		if open && kind != other {
			out = append(out, withoutEnd(body[begin:at]))
		}
		if open && kind == closer {
			return out
		}
		at += len(line)
		at += endSize(body[at:])
		if kind == divider {
			open = true
			begin = at
		}
	}
	if open {
		out = append(out, body[begin:])
	}
	return out
}

// lineKindOf tells what a line is by the mark that a boundary's line begins with.
func lineKindOf(line, mark string) lineKind {
	behind, marked := strings.CutPrefix(line, mark)
	if !marked {
		return other
	}
	switch strings.TrimRight(behind, white) {
	case "":
		return divider
	case dashes:
		return closer
	}
	return other
}

// endSize is how many bytes the line's end has that s begins with; 0: nothing is left.
func endSize(s string) int {
	switch {
	case strings.HasPrefix(s, "\r\n"):
		return 2
	case strings.HasPrefix(s, "\n"):
		return 1
	}
	return 0
}

// withoutEnd is s without the line's end that it ends with: that belongs to the line behind it.
func withoutEnd(s string) string {
	piece, ended := strings.CutSuffix(s, "\n")
	if !ended {
		return s
	}
	return strings.TrimSuffix(piece, "\r")
}

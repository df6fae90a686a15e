package htok

import (
	"slices"
	"strings"

	"muslin/api"
	"muslin/ascii"
	"muslin/ent"
)

const (
	white  = " \t\n\f\r"
	slash  = "/"
	equals = "="
)

// What names and values go up to.
const (
	nameEnds     = white + slash + end
	attrNameEnds = nameEnds + equals
	valueEnds    = white + end
)

// readTag reads the tag whose name s begins with: its name, its attributes and what stands behind it; false: nothing ends it.
func readTag(s string) (string, []api.Attr, string, bool) {
	name, s := upTo(s, 0, nameEnds)
	var attrs []api.Attr
	for {
		s = strings.TrimLeft(s, white+slash)
		if behind, ok := strings.CutPrefix(s, end); ok {
			return ascii.Lower(name), attrs, behind, true
		}
		if s == "" {
			return "", nil, "", false
		}
		var a api.Attr
		a, s = readAttr(s)
		if counts(attrs, a.Name) {
			attrs = append(attrs, a)
		}
	}
}

// counts tells whether one more attribute of a name is one of a tag's.
func counts(attrs []api.Attr, name string) bool {
	return len(attrs) < api.MaxAttrs && !slices.ContainsFunc(attrs, func(a api.Attr) bool { return a.Name == name })
}

// readAttr reads the attribute that s, which is not empty, begins with, and tells what stands behind it.
func readAttr(s string) (api.Attr, string) {
	// The first sign belongs to the name, whatever it is: so nothing is read twice.
	name, s := upTo(s, 1, attrNameEnds)
	a := api.Attr{Name: ascii.Lower(name)}
	rest, told := strings.CutPrefix(strings.TrimLeft(s, white), equals)
	if !told {
		return a, s
	}
	value, behind := readValue(strings.TrimLeft(rest, white))
	a.Value = ent.Decode(value)
	return a, behind
}

// readValue reads the value that s begins with, and tells what stands behind it. One whose quotes nothing ends goes to the end of s, where no tag is ended.
func readValue(s string) (string, string) {
	for _, quote := range [2]string{`"`, `'`} {
		if quoted, ok := strings.CutPrefix(s, quote); ok {
			value, behind, _ := strings.Cut(quoted, quote)
			return value, behind
		}
	}
	return upTo(s, 0, valueEnds)
}

// upTo cuts s at the first of these signs behind so many bytes; all of it is ahead if there is none.
func upTo(s string, first int, signs string) (string, string) {
	at := strings.IndexAny(s[first:], signs)
	if at < 0 {
		return s, ""
	}
	return s[:first+at], s[first+at:]
}

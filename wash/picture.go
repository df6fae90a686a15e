package wash

import (
	"slices"

	"muslin/api"
	"muslin/chars"
	"muslin/rules"
)

const (
	alternative = "alt"
	noName      = "picture" // stands for one that has no name
)

// isBlocked tells whether a node is a picture that is not let in.
func isBlocked(p api.Policy, node api.Node) bool {
	return slices.ContainsFunc(node.Attrs, func(a api.Attr) bool { return rules.Blocked(p, node.Name, a) })
}

// isPixel tells whether a picture is too small to be seen: it is there to tell its sender something.
func isPixel(picture api.Node) bool {
	return slices.ContainsFunc(picture.Attrs, func(a api.Attr) bool {
		return (a.Name == "width" || a.Name == "height") && (a.Value == "0" || a.Value == "1")
	})
}

// sign is the text that stands for a picture that is not let in.
func sign(picture api.Node) string {
	name, _ := first(picture.Attrs, alternative)
	if name == "" {
		name = noName
	}
	return "[" + chars.Valid(name) + "]"
}

// first is the value of the first attribute of a name; false: there is none.
func first(l []api.Attr, name string) (string, bool) {
	for _, a := range l {
		if a.Name == name {
			return a.Value, true
		}
	}
	return "", false
}

package attach

import (
	"iter"

	"muslin/api"
)

// isLeaf tells whether there is nothing in a part but its body.
func isLeaf(p api.Part) bool {
	return len(p.Parts) == 0
}

// leaves yields those of a part that is in so many others, in their order. It calls itself for each part in it, but not deeper than a message's parts lie: those that are handed in may lie deeper than calls can go.
func leaves(p api.Part, depth int) iter.Seq[api.Part] {
	return func(yield func(leaf api.Part) bool) {
		if isLeaf(p) {
			yield(p)
			return
		}
		inner := p.Parts
		if depth == api.MaxDepth {
			inner = flat(inner)
		}
		for _, part := range inner {
			for leaf := range leaves(part, depth+1) {
				if !yield(leaf) {
					return
				}
			}
		}
	}
}

// flat is the leaves of parts in one list, however deep they lie.
func flat(l []api.Part) []api.Part {
	var out []api.Part
	left := [][]api.Part{l} // at each depth, those that are still to be looked at
	for len(left) > 0 {
		depth := len(left) - 1
		row := left[depth]
		if len(row) == 0 {
			left = left[:depth]
			continue
		}
		left[depth] = row[1:]
		if isLeaf(row[0]) {
			out = append(out, row[0])
		} else {
			left = append(left, row[0].Parts)
		}
	}
	return out
}

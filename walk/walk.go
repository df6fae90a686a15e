// Package walk goes through trees, for several layers. It is no layer itself.
package walk

import "muslin/api"

// level is an element that is gone through.
type level struct {
	node api.Node
	left []api.Node // those of its nodes that are still to come
}

// Nodes goes through a tree: it tells the begin of each node, goes through the nodes that are answered, and tells the node's end. It does not call itself: nodes that are handed in may lie deeper than calls can go.
func Nodes(l []api.Node, begin func(node api.Node) []api.Node, end func(node api.Node)) {
	levels := []level{{left: l}}
	for {
		in := &levels[len(levels)-1]
		switch {
		case len(in.left) > 0:
			node := in.left[0]
			in.left = in.left[1:]
			levels = append(levels, level{node, begin(node)})
		case len(levels) > 1:
			end(in.node)
			levels = levels[:len(levels)-1]
		default:
			return
		}
	}
}

// Begins is the same, where nothing is to be done at a node's end.
func Begins(l []api.Node, begin func(node api.Node) []api.Node) {
	Nodes(l, begin, func(api.Node) {})
}

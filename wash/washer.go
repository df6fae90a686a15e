package wash

import (
	"muslin/api"
	"muslin/chars"
	"muslin/rules"
	"muslin/tree"
)

const (
	linkName    = "a"
	pictureName = "img"
)

const (
	address = "href"
	source  = "src"
)

const (
	relation = "rel"
	stranger = "noopener noreferrer" // where a link goes, nobody is told where it came from
)

// policy is a reader's, with the files of which it lets pictures in.
type policy struct {
	api.Policy
	files []api.Attached
}

// washer makes a tree clean.
type washer struct {
	policy
	linked bool // whether it is within a link
}

// nodes are what becomes of some. It calls itself for what is within a link, but not for what is within another element: nodes that are handed in may lie deeper than calls can go.
func (w *washer) nodes(l []api.Node) []api.Node {
	row := []part{{left: [][]api.Node{l}}} // the list itself, and in it the elements that are not ended, the innermost one last
	for {
		inner := &row[len(row)-1]
		if node, is := inner.next(); is {
			row = w.wash(row, node)
			continue
		}
		inner.endText()
		ended := inner.Node
		row = row[:len(row)-1]
		if len(row) == 0 {
			return ended.Kids
		}
		row[len(row)-1].add(ended)
	}
}

// wash puts what becomes of a node into the innermost part of a row, or begins one more part.
func (w *washer) wash(row []part, node api.Node) []part {
	inner := &row[len(row)-1]
	kind := rules.Element(node.Name)
	switch {
	case node.Name == "":
		inner.addText(chars.Valid(node.Text))
	case kind == rules.Drops:
	case kind == rules.Opens, node.Name == linkName && w.linked:
		inner.open(node.Kids)
	case node.Name == linkName:
		inner.add(w.link(node))
	case node.Name == pictureName:
		w.picture(inner, node)
	case tree.Void(node.Name):
		inner.add(w.element(node))
	default:
		return append(row, part{Node: w.element(node), left: [][]api.Node{node.Kids}})
	}
	return row
}

// link is what becomes of one: up to its end no other one stays.
func (w *washer) link(node api.Node) api.Node {
	w.linked = true
	defer func() { w.linked = false }()
	element := w.element(node)
	if _, goes := first(element.Attrs, address); goes {
		element.Attrs = append(element.Attrs, api.Attr{Name: relation, Value: stranger})
	}
	element.Kids = w.nodes(node.Kids)
	return element
}

// picture puts what becomes of one at a part's end.
func (w *washer) picture(in *part, node api.Node) {
	switch {
	case isPixel(node):
	case isBlocked(w.Policy, node):
		in.addText(sign(node))
	default:
		element := w.element(node)
		if _, shows := first(element.Attrs, source); shows {
			in.add(element)
		}
	}
}

// element is one that stays, with nothing in it yet.
func (w *washer) element(node api.Node) api.Node {
	element := api.Node{Name: node.Name}
	for _, a := range node.Attrs {
		if _, told := first(element.Attrs, a.Name); told {
			continue
		}
		if value, is := rules.Value(w.Policy, w.files, node.Name, a); is {
			element.Attrs = append(element.Attrs, api.Attr{Name: a.Name, Value: chars.Valid(value)})
		}
	}
	return element
}

package plain

import (
	"strings"

	"muslin/api"
	"muslin/walk"
)

const (
	lineFeed = "\n"
	lastFeed = "\r" // just ahead of a line feed it belongs to the line's end
)

// place is one in what is written.
type place struct {
	lines int // that are ended
	bytes int // of the line behind them
}

// page is what is written of all, or of a quote's nodes. Its lines have the signs ahead of them as a number, so that many quotes in one another take no longer than what is written at last.
type page struct {
	ended []line
	last  []byte // the line that is not ended yet
}

// writer writes a tree: it has a page for all and for each quote that is open, and for each node that is open the place in its page where it begins.
type writer struct {
	pages  []page
	begins []place
}

// Text is a plain text of a tree.
func Text(l []api.Node) string {
	w := writer{pages: make([]page, 1), begins: make([]place, 1)}
	walk.Nodes(l, w.begin, w.end)
	return w.inner().String()
}

// inner is the page that is written on.
func (w *writer) inner() *page {
	return &w.pages[len(w.pages)-1]
}

// begin writes what stands at a node's begin, and tells which nodes are to be written in it.
func (w *writer) begin(node api.Node) []api.Node {
	var kids []api.Node
	switch node.Name {
	case "":
		w.inner().write(node.Text)
	case breakName:
		w.inner().write(lineFeed)
	case quoteName:
		w.endLine()
		w.pages = append(w.pages, page{})
		kids = node.Kids
	default:
		kids = node.Kids
	}
	w.begins = append(w.begins, w.inner().place())
	return kids
}

// end writes what stands at a node's end.
func (w *writer) end(node api.Node) {
	w.begins = w.begins[:len(w.begins)-1]
	if node.Name == quoteName {
		quoted := w.inner()
		w.pages = w.pages[:len(w.pages)-1]
		w.inner().quote(quoted)
	}
}

// endLine ends the line that the nodes of the innermost row have begun, or gone on with.
func (w *writer) endLine() {
	p := w.inner()
	if len(p.last) > 0 && p.place() != w.begins[len(w.begins)-1] {
		p.write(lineFeed)
	}
}

// place is where a page ends.
func (p *page) place() place {
	return place{len(p.ended), len(p.last)}
}

// write puts a text at a page's end.
func (p *page) write(s string) {
	for {
		says, behind, ended := strings.Cut(s, lineFeed)
		p.last = append(p.last, says...)
		if !ended {
			return
		}
		p.ended = append(p.ended, line{says: string(p.last)})
		p.last = p.last[:0]
		s = behind
	}
}

// quote puts the lines of a quote's page at a page's end.
func (p *page) quote(quoted *page) {
	for _, one := range quoted.ended {
		p.add(line{one.level + 1, strings.TrimSuffix(one.says, lastFeed)})
	}
	if len(quoted.last) > 0 {
		p.add(line{1, string(quoted.last)})
	}
}

// add puts a line at a page's end.
func (p *page) add(one line) {
	if len(p.last) > 0 {
		p.write(one.String() + lineFeed)
		return
	}
	p.ended = append(p.ended, one)
}

// String is a line with its signs.
func (one line) String() string {
	return strings.Repeat(sign+blank, one.level) + one.says
}

// String is all that is written on a page.
func (p *page) String() string {
	var out strings.Builder
	for _, one := range p.ended {
		out.WriteString(one.String())
		out.WriteString(lineFeed)
	}
	out.Write(p.last)
	return out.String()
}

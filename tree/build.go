package tree

import (
	"muslin/api"
	"muslin/htok"
)

// part is an element that is open, or the tree itself.
type part struct {
	api.Node
	tail []byte // the text at its end, which is no node yet: more may come behind it
}

// builder makes a tree.
type builder struct {
	row   []part // the tree itself, and in it the open elements, the innermost one last
	count int    // of all nodes, the texts at the ends too
}

// Build makes a tree of a document.
func Build(s string) []api.Node {
	b := builder{row: make([]part, 1)}
	for _, token := range htok.Scan(s) {
		switch token.Kind {
		case api.Chars:
			b.chars(token.Text)
		case api.Start:
			b.start(token)
		case api.End:
			b.close(func(open *part) bool { return open.Name == token.Name })
		}
	}
	b.closeFrom(1)
	tree := b.inner()
	tree.endText()
	return tree.Kids
}

// inner is the innermost part.
func (b *builder) inner() *part {
	return &b.row[len(b.row)-1]
}

// chars puts a text at the end of the innermost part.
func (b *builder) chars(text string) {
	p := b.inner()
	if len(p.tail) == 0 && !b.take() {
		return
	}
	p.tail = append(p.tail, text...)
}

// start begins an element.
func (b *builder) start(token api.Token) {
	closes := func(open *part) bool { return Closes(token.Name, open.Name) }
	for b.close(closes) {
	}
	if !b.take() {
		return
	}
	p := b.inner()
	p.endText()
	element := api.Node{Name: token.Name, Attrs: token.Attrs}
	if Void(token.Name) || len(b.row) > api.MaxDepth {
		p.Kids = append(p.Kids, element)
		return
	}
	b.row = append(b.row, part{Node: element})
}

// take counts one more node; false: there may be no more.
func (b *builder) take() bool {
	if b.count == api.MaxNodes {
		return false
	}
	b.count++
	return true
}

// close closes the innermost open element that is the one, and all inside of it; false: there is none that no wall stands inside of.
func (b *builder) close(is func(open *part) bool) bool {
	for i := len(b.row) - 1; i > 0; i-- {
		if is(&b.row[i]) {
			b.closeFrom(i)
			return true
		}
		if isWall(b.row[i].Name) {
			return false
		}
	}
	return false
}

// closeFrom closes the open element at a place of the row, and all inside of it.
func (b *builder) closeFrom(place int) {
	for len(b.row) > place {
		p := b.inner()
		p.endText()
		b.row = b.row[:len(b.row)-1]
		around := b.inner()
		around.Kids = append(around.Kids, p.Node)
	}
}

// endText makes a node of the text at a part's end.
func (p *part) endText() {
	if len(p.tail) > 0 {
		p.Kids = append(p.Kids, api.Node{Text: string(p.tail)})
		p.tail = nil
	}
}

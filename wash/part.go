package wash

import "muslin/api"

// part is an element that stays, or the tree itself, as far as it is made.
type part struct {
	api.Node
	tail []byte       // the text at its end, which is no node yet: more may come behind it
	left [][]api.Node // what is still to be washed in it: of its own nodes, and of those of each opened element
}

// next takes the next node that is to be washed in a part; false: there is none.
func (p *part) next() (api.Node, bool) {
	for len(p.left) > 0 {
		last := len(p.left) - 1
		row := p.left[last]
		if len(row) > 0 {
			p.left[last] = row[1:]
			return row[0], true
		}
		p.left = p.left[:last]
	}
	return api.Node{}, false
}

// open has nodes washed in a part ahead of those that are left.
func (p *part) open(l []api.Node) {
	p.left = append(p.left, l)
}

// addText puts a text at a part's end.
func (p *part) addText(text string) {
	p.tail = append(p.tail, text...)
}

// add puts an element at a part's end.
func (p *part) add(element api.Node) {
	p.endText()
	p.Kids = append(p.Kids, element)
}

// endText makes a node of the text at a part's end.
func (p *part) endText() {
	if len(p.tail) > 0 {
		p.Kids = append(p.Kids, api.Node{Text: string(p.tail)})
		p.tail = nil
	}
}

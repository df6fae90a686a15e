package wash_test

import (
	"math/rand"
	"reflect"
	"runtime/debug"
	"slices"
	"strconv"
	"strings"
	"testing"
	"unicode/utf8"

	"muslin/api"
	"muslin/rules"
	"muslin/ser"
	"muslin/tree"
	"muslin/wash"
)

// The document's lists (chapters 14 and 18).
func stay() []string {
	return strings.Fields("a b blockquote br code dd div dl dt em h1 h2 h3 h4 h5 h6 hr i img li ol p pre s small span strong sub sup u ul")
}

func dropped() []string {
	return strings.Fields("script style title textarea xmp iframe noembed noframes plaintext noscript applet audio base button canvas embed frame frameset head input link math meta object option select source svg template track video")
}

// opened are some of all others.
func opened() []string {
	row := strings.Fields("html body font center table caption col colgroup tbody tr td th form label wbr area main section article figure picture map tt big marquee nobr menu image")
	return append(row, " ", "A", "IMG", "Script", "a b", "a/", "\xff", "x:y", "i mg")
}

func text(s string) api.Node { return api.Node{Text: s} }

func in(name string, kids ...api.Node) api.Node { return api.Node{Name: name, Kids: kids} }

// with is an element that has attributes, of names and values by turns.
func with(node api.Node, row ...string) api.Node {
	node.Attrs = nil
	for i := 0; i < len(row); i += 2 {
		node.Attrs = append(node.Attrs, api.Attr{Name: row[i], Value: row[i+1]})
	}
	return node
}

// img is a picture with attributes, of names and values by turns.
func img(row ...string) api.Node { return with(in("img"), row...) }

// linked is a link with what each has that goes somewhere.
func linked(href string, kids ...api.Node) api.Node {
	return with(in("a", kids...), "href", href, "rel", "noopener noreferrer")
}

// shown is a tree in short, with all that stands in any field.
func shown(l []api.Node) string {
	var row []string
	for _, n := range l {
		s := n.Name
		for _, a := range n.Attrs {
			s += " " + strconv.Quote(a.Name) + "=" + strconv.Quote(a.Value)
		}
		if n.Text != "" || n.Name == "" {
			s += strconv.Quote(n.Text)
		}
		if n.Name != "" || len(n.Kids) > 0 {
			s += "[" + shown(n.Kids) + "]"
		}
		row = append(row, s)
	}
	return strings.Join(row, " ")
}

// policies are all there are.
func policies() []api.Policy {
	var row []api.Policy
	for i := range 8 {
		row = append(row, api.Policy{Remote: i&1 != 0, Styles: i&2 != 0, Quotes: i&4 != 0})
	}
	return row
}

func everything() api.Policy { return api.Policy{Remote: true, Styles: true, Quotes: true} }

// some are files, of which the first and the third are pictures.
func some() []api.Attached {
	return []api.Attached{{Kind: "image/png", Id: "x"}, {Kind: "text/css", Id: "y"}, {Kind: "image/gif", Id: "z"}}
}

// tub is a policy with which trees are made clean.
type tub struct {
	t *testing.T
	p api.Policy
}

// cleans tells that nodes become others.
func (b tub) cleans(l, want []api.Node) {
	b.t.Helper()
	if u := wash.Clean(b.p, some(), l); shown(u) != shown(want) {
		b.t.Errorf("P19.1: of %+v, Clean(%.300s) is %.300s, not %.300s", b.p, shown(l), shown(u), shown(want))
	}
}

// one tells that a node becomes these nodes.
func (b tub) one(node api.Node, want ...api.Node) {
	b.t.Helper()
	b.cleans([]api.Node{node}, want)
	// it is the same wherever it stands
	b.cleans([]api.Node{in("p", in("i"), node, in("hr"))}, []api.Node{in("p", slices.Concat([]api.Node{in("i")}, want, []api.Node{in("hr")})...)})
	b.cleans([]api.Node{in("font", in("i"), in("font", node)), in("hr")}, slices.Concat([]api.Node{in("i")}, want, []api.Node{in("hr")}))
	b.cleans([]api.Node{in("script", node), in("br"), in("svg", in("b", node))}, []api.Node{in("br")})
	b.cleans([]api.Node{in("br", node), in("hr", in("b", node))}, []api.Node{in("br"), in("hr")})
}

// blocks tells how many pictures of nodes are blocked.
func (b tub) blocks(want int, l ...api.Node) {
	b.t.Helper()
	if n := wash.Blocked(b.p, l); n != want {
		b.t.Errorf("P19.2: of %+v, Blocked(%.300s) is %d, not %d", b.p, shown(l), n, want)
	}
}

func TestTexts(t *testing.T) { // P19.1
	for _, p := range policies() {
		b := tub{t, p}
		b.cleans(nil, nil)
		b.cleans([]api.Node{}, nil)
		b.cleans([]api.Node{text("")}, nil)
		b.cleans([]api.Node{text(""), text(""), in("b", text("")), text("")}, []api.Node{in("b")})
		b.one(text("a"), text("a"))
		b.one(text(" <b>&amp;\n\x00\u00a0\"'"), text(" <b>&amp;\n\x00\u00a0\"'"))
		b.one(text("a\xff\xc3b\xed\xa0\x80"), text("a\ufffd\ufffdb\ufffd\ufffd\ufffd"))
		b.one(text("\u00e9\u20ac\U0001f600\ufffd"), text("\u00e9\u20ac\U0001f600\ufffd"))
		// texts behind one another are one, each valid by itself
		b.cleans([]api.Node{text("a"), text("b"), text(""), text("c")}, []api.Node{text("abc")})
		b.cleans([]api.Node{text("\xc3"), text("\xa9")}, []api.Node{text("\ufffd\ufffd")})
		b.cleans([]api.Node{text("a"), in("script", text("b")), text("c")}, []api.Node{text("ac")})
		b.cleans([]api.Node{text("a"), in("font", text("b")), text("c")}, []api.Node{text("abc")})
		b.cleans([]api.Node{text("a"), in("td", in("tr", text("b"), in("i"), text("c")), text("d")), text("e")}, []api.Node{text("ab"), in("i"), text("cde")})
		b.cleans([]api.Node{text("a"), in("b"), text("c")}, []api.Node{text("a"), in("b"), text("c")})
		b.cleans([]api.Node{text("a"), img(), img("width", "0"), in("font"), text("b")}, []api.Node{text("ab")})
		b.cleans([]api.Node{text("a"), img("src", "x"), text("b"), img("src", "x", "alt", "y")}, []api.Node{text("a[picture]b[y]")})
		b.cleans([]api.Node{in("b", text("a"), in("i", text("b")), text("c"), text("d")), text("e")}, []api.Node{in("b", text("a"), in("i", text("b")), text("cd")), text("e")})
		b.cleans([]api.Node{in("a", text("a"), in("a", text("b")), text("c")), text("d")}, []api.Node{in("a", text("abc")), text("d")})
	}
	// what no document gives a text counts for nothing
	odd := with(in("", in("b"), text("x")), "title", "y")
	tub{t, everything()}.one(odd)
	odd.Text = "z"
	tub{t, everything()}.one(odd, text("z"))
}

func TestElements(t *testing.T) { // P19.1
	for _, p := range policies() {
		b := tub{t, p}
		// example 1
		b.cleans([]api.Node{in("font", with(in("b", text("y")), "onclick", "x")), in("script", text("z"))}, []api.Node{in("b", text("y"))})
		for _, name := range stay() {
			switch name {
			case "img":
				b.one(in(name))
				b.one(img("src", "att:2"), img("src", "att:2"))
				node := img("src", "cid:x")
				node.Kids = []api.Node{text("u"), in("i")}
				b.one(node, img("src", "att:0"))
			case "br", "hr":
				b.one(in(name), in(name))
				b.one(in(name, text("x"), in("b"), in(name)), in(name))
				b.one(with(in(name, text("x")), "title", "y", "href", "https://h"), with(in(name), "title", "y"))
			default:
				b.one(in(name), in(name))
				b.one(in(name, text("x"), in("br"), text("y")), in(name, text("x"), in("br"), text("y")))
				b.one(in(name, in("p", in("center", in("em")), in("object", text("z")))), in(name, in("p", in("em"))))
				b.one(with(in(name, text("x")), "title", "y", "lang", "en", "onclick", "z"), with(in(name, text("x")), "title", "y", "lang", "en"))
			}
		}
		for _, name := range dropped() {
			b.one(in(name))
			b.one(with(in(name, text("x"), in("b", text("y")), img("src", "att:0"), in(name, in("p"))), "title", "t"))
		}
		for _, name := range opened() {
			b.one(in(name))
			b.one(with(in(name, in("b", text("y")), in(name, in("script"), in("p"))), "title", "t", "src", "https://h"), in("b", text("y")), in("p"))
		}
		// what no document gives an element counts for nothing
		odd := in("b", in("i"))
		odd.Text = "x"
		b.one(odd, in("b", in("i")))
		odd.Name = "br"
		b.one(odd, in("br"))
		odd.Name = "font"
		b.one(odd, in("i"))
	}
}

func TestAttributes(t *testing.T) { // P19.1
	for _, p := range policies() {
		b := tub{t, p}
		b.one(with(in("b"), "title", "x", "id", "y", "dir", "rtl", "class", "z", "onload", "w", "lang", "de"), with(in("b"), "title", "x", "dir", "rtl", "lang", "de"))
		b.one(with(in("b"), "lang", "de", "title", "", "dir", "x"), with(in("b"), "lang", "de", "title", ""))
		b.one(with(in("b"), "Title", "x", "", "y", "title ", "z", "href", "https://h", "src", "att:0", "width", "5", "start", "3"), in("b"))
		// the first one of each name that is let through
		b.one(with(in("b"), "title", "x", "title", "y", "lang", "a", "title", "x", "lang", "b"), with(in("b"), "title", "x", "lang", "a"))
		b.one(with(in("b"), "dir", "up", "dir", "ltr", "dir", "rtl"), with(in("b"), "dir", "ltr"))
		b.one(with(in("a"), "href", "javascript:x", "href", "https://h", "href", "https://i"), linked("https://h"))
		b.one(with(in("b"), "title", "", "title", "x"), with(in("b"), "title", ""))
		// values as they are let through, and valid
		b.one(with(in("b"), "title", "a\xffb"), with(in("b"), "title", "a\ufffdb"))
		b.one(img("alt", "\xc3(", "src", "cid:x", "title", "\u00e9\x80"), img("alt", "\ufffd(", "src", "att:0", "title", "\u00e9\ufffd"))
		b.one(with(in("a"), "href", " mail\nto:\xff "), linked("mailto:\ufffd"))
		b.one(with(in("ol", with(in("li"), "value", "7", "start", "8")), "start", "5", "value", "6"), with(in("ol", with(in("li"), "value", "7")), "start", "5"))
		b.one(with(in("li"), "value", "12345", "title", "<&>"), with(in("li"), "title", "<&>"))
		b.one(img("width", "10", "src", "att:0", "height", "007", "srcset", "x", "width", "12", "lowsrc", "y"), img("width", "10", "src", "att:0", "height", "007"))
		style := with(in("p"), "style", "color:red;background:url(x);color:Blue", "title", "t")
		if p.Styles {
			b.one(style, with(in("p"), "style", "color: Blue", "title", "t"))
		} else {
			b.one(style, with(in("p"), "title", "t"))
		}
		b.one(with(in("p"), "style", "x:y"), in("p"))
	}
	many := in("p")
	for i := range 100 {
		many.Attrs = append(many.Attrs, api.Attr{Name: []string{"on" + strconv.Itoa(i), "title", "dir"}[i%3], Value: []string{"rtl", strconv.Itoa(i)}[i%2]})
	}
	tub{t, api.Policy{}}.one(many, with(in("p"), "title", "1", "dir", "rtl"))
}

func TestLinks(t *testing.T) { // P19.1
	for _, p := range policies() {
		b := tub{t, p}
		b.one(in("a", text("x")), in("a", text("x")))
		b.one(with(in("a", text("x")), "href", "https://h"), linked("https://h", text("x")))
		b.one(with(in("a", in("b")), "href", "http://h", "title", "t"), with(in("a", in("b")), "href", "http://h", "title", "t", "rel", "noopener noreferrer"))
		b.one(with(in("a"), "rel", "next", "title", "t", "href", "mailto:x", "rel", "y", "target", "z"), with(in("a"), "title", "t", "href", "mailto:x", "rel", "noopener noreferrer"))
		for _, href := range []string{"", "javascript:x", "/x", "cid:x", "att:0", "#", "data:x", "x"} {
			b.one(with(in("a", text("x")), "href", href, "rel", "y"), in("a", text("x")))
		}
		b.one(with(in("b"), "rel", "x", "href", "https://h"), in("b"))
		b.one(with(in("a"), "rel", "x"), in("a"))
		// links in links
		inner := with(in("a", text("y"), in("i")), "href", "https://i")
		for _, outer := range []api.Node{in("a"), with(in("a"), "href", "https://h")} {
			clean := outer
			if len(outer.Attrs) > 0 {
				clean = linked("https://h")
			}
			nest := func(want []api.Node, kids ...api.Node) {
				t.Helper()
				outer.Kids, clean.Kids = kids, want
				b.one(outer, clean)
				b.one(in("p", outer, inner, outer), in("p", clean, linked("https://i", text("y"), in("i")), clean))
			}
			nest([]api.Node{text("y"), in("i")}, inner)
			nest([]api.Node{text("xy"), in("i"), text("z")}, text("x"), inner, text("z"))
			nest([]api.Node{in("b", text("y"), in("i"))}, in("b", inner))
			nest([]api.Node{text("y"), in("i")}, in("table", in("td", inner)))
			nest([]api.Node{in("p", in("b", text("y"), in("i"), in("u")))}, in("p", in("a", in("b", in("a", in("a"), inner), in("a", in("u"))))))
			nest([]api.Node{text("y"), in("i"), text("y"), in("i")}, inner, in("script", inner), inner)
			nest(nil, in("a"), in("a", in("a")))
		}
		// a link that does not stay holds no other one
		b.cleans([]api.Node{in("script", in("a")), inner, in("button", in("a", in("a"))), inner}, []api.Node{linked("https://i", text("y"), in("i")), linked("https://i", text("y"), in("i"))})
		b.one(in("A", inner), linked("https://i", text("y"), in("i")))
	}
}

func TestPictures(t *testing.T) { // P19.1, P19.2
	for _, p := range policies() {
		b := tub{t, p}
		for src, want := range map[string]string{"cid:x": "att:0", " CID:z\n": "att:2", "att:0": "att:0", "att:2": "att:2"} {
			b.one(img("src", src), img("src", want))
			b.one(img("alt", "", "src", src, "width", "2"), img("alt", "", "src", want, "width", "2"))
			b.blocks(0, img("src", src), in("p", img("src", src, "alt", "x")))
		}
		for _, src := range []string{"", " ", "cid:y", "cid:w", "cid:", "att:1", "att:3", "att:00", "data:image/png,x", "javascript:x", "mailto:x", "http:", "https://"} {
			b.one(img("src", src, "alt", "x", "title", "y"))
			b.blocks(0, img("src", src, "alt", "x"), in("p", img("src", src)))
		}
		b.one(in("img"))
		b.one(img("alt", "x", "title", "y", "width", "10", "href", "https://h", "srcset", "https://h"))
		b.blocks(0, in("img"), img("alt", "x", "href", "http://h", "srcset", "http://h", "lowsrc", "http://h"))
		for _, src := range []string{"http://h", "HTTP://h/x.png", "x.png", "//h", "/x", "?", " h\tttp://h "} {
			b.blocked(src)
		}
		for _, src := range []string{"https://h", " HTTPS://h/x\n"} {
			if !p.Remote {
				b.blocked(src)
				continue
			}
			clean := strings.TrimSpace(src)
			b.one(img("alt", "x", "src", src), img("alt", "x", "src", clean))
			b.blocks(0, img("src", src), in("p", img("src", src)))
		}
		// one that is blocked at any of its addresses is blocked
		b.one(img("src", "att:0", "src", "http://h"), text("[picture]"))
		b.one(img("src", "http://h", "alt", "y", "src", "att:0"), text("[y]"))
		b.blocks(2, img("src", "att:0", "src", "http://h"), img("src", "http://h", "src", "att:0", "src", "http://h"))
		b.one(img("src", "cid:w", "src", "att:2", "src", "att:0"), img("src", "att:2"))
		// other elements are no pictures
		for _, name := range []string{"b", "a", "IMG", "image", "font"} {
			node := with(in(name), "src", "http://h", "alt", "x")
			b.blocks(0, node)
			if name == "b" || name == "a" {
				b.one(node, in(name))
			} else {
				b.one(node)
			}
		}
	}
}

// blocked tells that a picture of that address is blocked.
func (b tub) blocked(src string) {
	b.t.Helper()
	b.one(img("src", src), text("[picture]"))
	b.one(img("src", src, "alt", ""), text("[picture]"))
	b.one(img("src", src, "alt", "", "alt", "x"), text("[picture]"))
	b.one(img("title", "t", "alt", "x<&]", "src", src, "alt", "y"), text("[x<&]]"))
	b.one(img("src", src, "alt", "\xff\u00e9"), text("[\ufffd\u00e9]"))
	b.one(img("src", src, "alt", " ", "width", "5"), text("[ ]"))
	b.one(img("src", src, "Alt", "x"), text("[picture]"))
	node := img("src", src)
	node.Kids = []api.Node{text("u"), in("b")}
	b.one(node, text("[picture]"))
	b.blocks(1, img("src", src))
	b.blocks(1, img("title", "t", "src", src, "alt", "x", "width", "2"))
	b.blocks(1, img("src", src, "src", src))
	b.blocks(3, img("src", src), in("p", text("x"), in("font", img("src", src)), img("src", src)))
}

func TestPixels(t *testing.T) { // P19.1, P19.2
	for _, p := range policies() {
		b := tub{t, p}
		for _, src := range []string{"att:0", "cid:x", "http://h", "https://h", "x"} {
			for _, name := range []string{"width", "height"} {
				for _, value := range []string{"0", "1"} {
					for _, pixel := range []api.Node{img("src", src, name, value), img(name, value, "src", src, "alt", "x"), img("width", "50", "height", "50", "src", src, name, value), img(name, value, name, "50", "src", src)} {
						b.one(pixel)
						b.blocks(0, pixel, in("p", pixel))
					}
				}
			}
		}
		for _, value := range []string{"", "2", "00", "01", "10", "11", "1px", "1%", " 1", "1 ", "+1", "-1", "0.5", "1.0", "0px", "\uff11", "x"} {
			for _, name := range []string{"width", "height"} {
				node, clean := img("src", "att:0", name, value), img("src", "att:0")
				if len(value) > 0 && strings.Trim(value, "0123456789") == "" {
					clean = img("src", "att:0", name, value)
				}
				b.one(node, clean)
				b.one(img("src", "x", name, value), text("[picture]"))
				b.blocks(1, img("src", "x", name, value))
			}
		}
		for _, name := range []string{"Width", "HEIGHT", "size", "title", "border", ""} {
			b.blocks(1, img("src", "x", name, "1"))
			b.one(img("src", "x", name, "0"), text("[picture]"))
		}
		// other elements are none
		b.one(with(in("p", text("x")), "width", "1", "height", "0"), in("p", text("x")))
		b.one(with(in("a", text("x")), "width", "0"), in("a", text("x")))
	}
}

func TestWhereBlockedOnesAre(t *testing.T) { // P19.2
	for _, p := range policies() {
		b := tub{t, p}
		b.blocks(0)
		b.blocks(0, text("x"), text("<img src=http://h>"), in("b", text("")))
		far := img("src", "http://h")
		for _, name := range dropped() {
			b.blocks(0, in(name, far, in("p", far)), in("b", in(name, in("font", far))))
			b.blocks(1, in(name, far), far, in(name, in("b", far)))
		}
		for _, name := range slices.Concat(stay(), opened()) {
			b.blocks(2, in(name, far, in("p", far)))
			b.blocks(3, far, in("font", in(name, in(name, far))), far)
		}
		b.blocks(2, in("a", far, in("a", in("a", far))))
		// where no document has any, they are in the tree nevertheless
		odd := text("x")
		odd.Kids = []api.Node{far}
		b.blocks(2, odd, in("b", odd))
		node := img("src", "http://h", "width", "1")
		node.Kids = []api.Node{far, in("b", far)}
		b.blocks(2, node)
		node.Attrs = nil
		b.blocks(2, node)
		node.Attrs = far.Attrs
		b.blocks(3, node)
	}
}

// model tells what becomes of nodes by the chapter's words, step by step.
type model struct {
	p     api.Policy
	files []api.Attached
}

// values are those of all attributes of a name.
func values(node api.Node, name string) []string {
	var row []string
	for _, a := range node.Attrs {
		if a.Name == name {
			row = append(row, a.Value)
		}
	}
	return row
}

func (m model) blocked(node api.Node) bool {
	count := 0
	for _, a := range node.Attrs {
		if node.Name == "img" && rules.Blocked(m.p, "img", a) {
			count++
		}
	}
	return count > 0
}

func (m model) pixel(node api.Node) bool {
	sizes := append(values(node, "width"), values(node, "height")...)
	return slices.Contains(sizes, "0") || slices.Contains(sizes, "1")
}

func valid(s string) string { return string([]rune(s)) }

func (m model) becomes(node api.Node, inLink bool) []api.Node {
	if node.Name == "" {
		return []api.Node{text(valid(node.Text))}
	}
	var kids []api.Node
	for _, kid := range node.Kids {
		kids = append(kids, m.becomes(kid, inLink || node.Name == "a")...)
	}
	switch rules.Element(node.Name) {
	case rules.Drops:
		return nil
	case rules.Opens:
		return kids
	}
	if node.Name == "img" && m.pixel(node) {
		return nil
	}
	if m.blocked(node) {
		alt := append(values(node, "alt"), "")[0]
		if alt == "" {
			alt = "picture"
		}
		return []api.Node{text("[" + valid(alt) + "]")}
	}
	if node.Name == "a" && inLink {
		return kids
	}
	element := api.Node{Name: node.Name}
	for _, a := range node.Attrs {
		if v, is := rules.Value(m.p, m.files, node.Name, a); is && len(values(element, a.Name)) == 0 {
			element.Attrs = append(element.Attrs, api.Attr{Name: a.Name, Value: valid(v)})
		}
	}
	if node.Name == "a" && len(values(element, "href")) > 0 {
		element.Attrs = append(element.Attrs, api.Attr{Name: "rel", Value: "noopener noreferrer"})
	}
	if node.Name == "img" && len(values(element, "src")) == 0 {
		return nil
	}
	if !tree.Void(node.Name) {
		element.Kids = kids
	}
	return []api.Node{element}
}

// joined are nodes with each row of texts as one, and without empty ones, at all depths.
func joined(l []api.Node) []api.Node {
	var out []api.Node
	for _, node := range l {
		node.Kids = joined(node.Kids)
		switch {
		case node.Name != "":
			out = append(out, node)
		case node.Text == "":
		case len(out) > 0 && out[len(out)-1].Name == "":
			out[len(out)-1].Text += node.Text
		default:
			out = append(out, node)
		}
	}
	return out
}

func (m model) clean(l []api.Node) []api.Node {
	var out []api.Node
	for _, node := range l {
		out = append(out, m.becomes(node, false)...)
	}
	return joined(out)
}

func (m model) count(l []api.Node) int {
	n := 0
	for _, node := range l {
		if rules.Element(node.Name) != rules.Drops {
			if m.blocked(node) && !m.pixel(node) {
				n++
			}
			n += m.count(node.Kids)
		}
	}
	return n
}

// grower makes trees of all sorts.
type grower struct {
	random *rand.Rand
	names  []string
}

func (g *grower) from(row ...string) string { return row[g.random.Intn(len(row))] }

func (g *grower) words() string {
	s := ""
	for range g.random.Intn(4) {
		s += g.from("a", " ", "<b>", "&amp;", "\u00e9", "\xc3", "\xa9", "\xff", "\x00", "\n")
	}
	return s
}

func (g *grower) attr() api.Attr {
	switch name := g.from("title", "src", "src", "href", "alt", "width", "height", "style", "dir", "lang", "start", "value", "rel", "onclick", "SRC"); name {
	case "src", "href":
		return api.Attr{Name: name, Value: g.from("", " https://h\n", "http://h\xff", "cid:x", "CID:z", "cid:y", "att:0", "att:1", "att:2", "x", "javascript:x", "mailto:\xc3a", "data:x")}
	case "width", "height", "start", "value":
		return api.Attr{Name: name, Value: g.from("0", "1", "01", "5", "100", "x", "")}
	case "style":
		return api.Attr{Name: name, Value: g.from("color:red", "COLOR:red;x:y", "background:url(x)", "width:1px;width:2px", "")}
	case "dir", "lang":
		return api.Attr{Name: name, Value: g.from("ltr", "rtl", "auto", "e n", "")}
	default:
		return api.Attr{Name: name, Value: g.words()}
	}
}

func (g *grower) node(most int) api.Node {
	if g.random.Intn(3) == 0 {
		return text(g.words())
	}
	node := api.Node{Name: g.from(g.names...)}
	for range g.random.Intn(6) {
		node.Attrs = append(node.Attrs, g.attr())
	}
	node.Kids = g.grow(most - 1)
	if g.random.Intn(50) == 0 {
		node.Text = g.words()
	}
	if g.random.Intn(50) == 0 {
		node.Name = ""
	}
	return node
}

func (g *grower) grow(most int) []api.Node {
	var l []api.Node
	for range g.random.Intn(most + 1) {
		l = append(l, g.node(most))
	}
	return l
}

func growers(seed int64) []*grower {
	random := rand.New(rand.NewSource(seed))
	var l []*grower
	for _, names := range [][]string{
		{"img", "font", "p"}, {"a", "b", "font", "img"}, {"p", "br", "hr", "script", "img"}, {"a", "table", "script", "a"}, {"ol", "li", "span", "img", "center"}, stay(), slices.Concat(stay(), dropped(), opened()), {"font", "td"}, {"br", "img", "a"},
	} {
		l = append(l, &grower{random, names})
	}
	return l
}

func TestMixed(t *testing.T) { // P19.1, P19.2
	var blocked, pictures, links int
	for n, row := 0, growers(191); n < 40000; n++ {
		l := row[n%len(row)].grow(1 + n%6)
		m := model{policies()[n%8], some()}
		want := m.clean(l)
		tub{t, m.p}.cleans(l, want)
		tub{t, m.p}.blocks(m.count(l), l...)
		if t.Failed() {
			return
		}
		s := shown(want)
		blocked += m.count(l)
		pictures += strings.Count(s, "img ")
		links += strings.Count(s, "noopener")
	}
	if blocked < 1000 || pictures < 1000 || links < 200 {
		t.Errorf("only %d blocked ones, %d pictures, %d links", blocked, pictures, links)
	}
}

// holdClean tells whether all nodes of a tree are clean by themselves.
func holdClean(t *testing.T, p api.Policy, l []api.Node, inLink bool) {
	t.Helper()
	for i, node := range l {
		here := shown(l[i : i+1])
		if node.Name == "" {
			if node.Text == "" || len(node.Attrs) > 0 || len(node.Kids) > 0 || !utf8.ValidString(node.Text) || i > 0 && l[i-1].Name == "" {
				t.Fatalf("P19.1, R4: a text %s", here)
			}
			continue
		}
		if !slices.Contains(stay(), node.Name) || node.Text != "" || tree.Void(node.Name) && len(node.Kids) > 0 {
			t.Fatalf("P19.3, R4: of %+v, %s", p, here)
		}
		if node.Name == "a" && inLink {
			t.Fatalf("P19.1: a link in a link: %s", here)
		}
		for _, a := range node.Attrs {
			isRel := node.Name == "a" && a.Name == "rel" && a.Value == "noopener noreferrer" && len(values(node, "href")) == 1
			if !isRel && !rules.Attr(node.Name, a.Name) || len(values(node, a.Name)) != 1 || !utf8.ValidString(a.Value) || rules.Blocked(p, node.Name, a) {
				t.Fatalf("P19.3: of %+v, %s=%q of %s", p, a.Name, a.Value, here)
			}
		}
		if node.Name == "img" && len(values(node, "src")) != 1 {
			t.Fatalf("P19.1: a picture without an address: %s", here)
		}
		holdClean(t, p, node.Kids, inLink || node.Name == "a")
	}
}

func TestWhatIsCleanStays(t *testing.T) { // P19.3
	for n, row := 0, growers(193); n < 20000; n++ {
		l := row[n%len(row)].grow(1 + n%6)
		p := policies()[n/9%8]
		clean := wash.Clean(p, some(), l)
		holdClean(t, p, clean, false)
		tub{t, p}.cleans(clean, clean)
		tub{t, p}.blocks(0, clean...)
		if t.Failed() {
			return
		}
	}
	for s, want := range map[string]string{
		"<p>a<b title=x>b</b><br>c</p>":          "<p>a<b title=\"x\">b</b><br>c</p>",
		"<a href=https://h>x<img src=cid:x></a>": "<a href=\"https://h\" rel=\"noopener noreferrer\">x<img src=\"att:0\"></a>",
		"<img src=https://h>":                    "<img src=\"https://h\">",
		"<img src=http://h><script>":             "[picture]",
	} {
		l := wash.Clean(everything(), some(), tree.Build(s))
		for range 3 {
			if u := ser.Write(l); u != want {
				t.Errorf("P19.3: %q is %q, not %q", s, u, want)
			}
			l = wash.Clean(everything(), some(), tree.Build(ser.Write(l)))
		}
	}
}

func TestVeryDeepOnes(t *testing.T) { // R1
	const levels = 100000
	// With so little room for calls, one for each level would end the program.
	defer debug.SetMaxStack(debug.SetMaxStack(1 << 21))
	for name, want := range map[string]string{
		"b":      strings.Repeat("y<b>", levels) + "x" + strings.Repeat("</b>z", levels),
		"font":   strings.Repeat("y", levels) + "x" + strings.Repeat("z", levels),
		"a":      "y<a>" + strings.Repeat("y", levels-1) + "x" + strings.Repeat("z", levels-1) + "</a>z",
		"script": "yz",
		"br":     "y<br>z",
		"img":    "yz",
	} {
		l := []api.Node{text("x")}
		for range levels {
			l = []api.Node{text("y"), in(name, l...), text("z")}
		}
		if s := ser.Write(wash.Clean(api.Policy{}, nil, l)); s != want {
			t.Errorf("P19.1: many %s in one another are %d bytes, not %d", name, len(s), len(want))
		}
	}
	for _, name := range []string{"b", "font", "a"} {
		var l []api.Node
		for range levels {
			l = []api.Node{img("src", "x"), in(name, l...)}
		}
		if n := wash.Blocked(api.Policy{}, l); n != levels {
			t.Errorf("P19.2: in many %s in one another: %d", name, n)
		}
	}
}

func TestLongOnesEnd(t *testing.T) { // R1
	const size = 1 << 14
	for _, node := range []api.Node{text("x"), text("\xff"), in("b", text("x")), in("font", text("x")), in("script", text("x")), in("br"), in("a", in("a", text("x"))), with(in("p"), "title", "x", "title", "y"), img("src", "x"), img("src", "cid:x"), text("")} {
		l := slices.Repeat([]api.Node{node}, size)
		m := model{api.Policy{}, some()}
		want := strings.Repeat(ser.Write(m.clean([]api.Node{node})), size)
		for around, l := range map[string][]api.Node{"": l, "p": {in("p", l...)}, "font": {in("font", l...)}} {
			u := wash.Clean(m.p, m.files, l)
			if around == "p" && len(u) == 1 {
				u = u[0].Kids
			}
			if s := ser.Write(u); s != want {
				t.Errorf("P19.1: many of %s in %q are %d bytes, not %d", shown([]api.Node{node}), around, len(s), len(want))
			}
			if n := wash.Blocked(m.p, l); n != size*m.count([]api.Node{node}) {
				t.Errorf("P19.2: many of %s in %q: %d", shown([]api.Node{node}), around, n)
			}
		}
	}
	many := in("img")
	for i := range size {
		many.Attrs = append(many.Attrs, api.Attr{Name: []string{"title", "alt", "x" + strconv.Itoa(i), "src"}[i%4], Value: "att:0"})
	}
	tub{t, everything()}.one(many, img("title", "att:0", "alt", "att:0", "src", "att:0"))
}

// copied is a tree of its own.
func copied(l []api.Node) []api.Node {
	out := slices.Clone(l)
	for i := range out {
		out[i].Attrs = slices.Clone(out[i].Attrs)
		out[i].Kids = copied(out[i].Kids)
	}
	return out
}

// roomy is a tree whose lists have room behind them, in which something stands.
func roomy(l []api.Node) []api.Node {
	out := append(slices.Clone(l), in("spare"))
	for i, node := range l {
		out[i].Kids = roomy(node.Kids)
		out[i].Attrs = append(slices.Clone(node.Attrs), api.Attr{Name: "spare"})[:len(node.Attrs)]
	}
	return out[:len(l)]
}

// roomStays tells whether it still stands there.
func roomStays(l []api.Node) bool {
	if l[:len(l)+1][len(l)].Name != "spare" {
		return false
	}
	for _, node := range l {
		if node.Attrs[:len(node.Attrs)+1][len(node.Attrs)].Name != "spare" || !roomStays(node.Kids) {
			return false
		}
	}
	return true
}

// spoil changes all that a tree's lists hold, and what is in the room behind them.
func spoil(l []api.Node) {
	for i := range l {
		spoil(l[i].Kids)
		attrs := l[i].Attrs[:cap(l[i].Attrs)]
		for j := range attrs {
			attrs[j] = api.Attr{Name: "spoilt"}
		}
	}
	l = l[:cap(l)]
	for i := range l {
		l[i] = in("spoilt")
	}
}

func TestWhatIsHandedInStays(t *testing.T) { // R5, R6
	for n, row := 0, growers(195); n < 3000; n++ {
		l, p, files := roomy(row[n%len(row)].grow(1+n%5)), policies()[n%8], some()
		before := copied(l)
		clean, blocked := wash.Clean(p, files, l), wash.Blocked(p, l)
		want := shown(clean)
		if shown(wash.Clean(p, files, l)) != want || wash.Blocked(p, l) != blocked {
			t.Fatalf("R6: %s", shown(l))
		}
		// what is put behind one list of an answer is in no other
		var fill func(l []api.Node)
		fill = func(l []api.Node) {
			_ = append(l, in("w"), in("w"), in("w"))
			for _, node := range l {
				_ = append(node.Attrs, api.Attr{Name: "w"}, api.Attr{Name: "w"})
				fill(node.Kids)
			}
		}
		fill(clean)
		if shown(clean) != want {
			t.Fatalf("R5: %s, not %s", shown(clean), want)
		}
		spoil(clean)
		if !reflect.DeepEqual(l, before) || !roomStays(l) || !slices.Equal(files, some()) {
			t.Fatalf("R5: %s, not %s", shown(l), shown(before))
		}
		if shown(wash.Clean(p, files, l)) != want {
			t.Fatalf("R6: %s", shown(l))
		}
	}
}

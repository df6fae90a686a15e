package ser_test

import (
	"math/rand"
	"reflect"
	"runtime/debug"
	"slices"
	"strconv"
	"strings"
	"testing"

	"muslin/api"
	"muslin/ser"
	"muslin/tree"
)

// voids and raws have the document's lists.
func voids() []string {
	return []string{"area", "base", "br", "col", "embed", "hr", "img", "input", "link", "meta", "source", "track", "wbr"}
}

func raws() []string {
	return []string{"script", "style", "title", "textarea", "xmp", "iframe", "noembed", "noframes", "plaintext", "noscript"}
}

func text(s string) api.Node { return api.Node{Text: s} }

func in(name string, kids ...api.Node) api.Node { return api.Node{Name: name, Kids: kids} }

// with is an element that has attributes, of names and values by turns.
func with(node api.Node, row ...string) api.Node {
	node.Attrs = nil
	for i := 0; i < len(row); i += 2 {
		node.Attrs = append(node.Attrs, api.Attr{Name: row[i], Value: row[i+1]})
	}
	return node
}

// shown is a tree in short, with all that stands in any field.
func shown(l []api.Node) string {
	var row []string
	for _, n := range l {
		s := n.Name
		for _, a := range n.Attrs {
			s += " " + a.Name + "=" + strconv.Quote(a.Value)
		}
		if n.Text != "" || n.Name == "" {
			s += strconv.Quote(n.Text)
		}
		if n.Name != "" || len(n.Kids) > 0 {
			s += "[" + shown(n.Kids) + "]"
		}
		row = append(row, s)
	}
	return strings.Join(row, " ")
}

// signs writes a text sign by sign, with a name for each that needs one.
func signs(s string, named ...string) string {
	out := ""
	for s != "" {
		one, sign := s[:1], s[:1]
		for i := 0; i < len(named); i += 2 {
			if strings.HasPrefix(s, named[i]) {
				one, sign = named[i], "&"+named[i+1]+";"
			}
		}
		out += sign
		s = s[len(one):]
	}
	return out
}

// textSigns and valueSigns write what they say.
func textSigns(s string) string {
	return signs(s, "&", "amp", "<", "lt", ">", "gt", "\u00a0", "nbsp")
}

func valueSigns(s string) string {
	return signs(s, "&", "amp", "<", "lt", ">", "gt", "\u00a0", "nbsp", "\"", "quot")
}

// written is the document of a tree, as P15.1 says it.
func written(l []api.Node) string {
	out := ""
	for _, n := range l {
		if n.Name == "" {
			out += textSigns(n.Text)
			continue
		}
		out += "<" + n.Name
		for _, a := range n.Attrs {
			out += " " + a.Name + "=\"" + valueSigns(a.Value) + "\""
		}
		out += ">"
		if slices.Contains(voids(), n.Name) {
			continue
		}
		if slices.Contains(raws(), n.Name) {
			for _, kid := range n.Kids {
				if kid.Name == "" {
					out += kid.Text
				}
			}
		} else {
			out += written(n.Kids)
		}
		out += "</" + n.Name + ">"
	}
	return out
}

// said is all of a tree's texts, as P15.2 says it.
func said(l []api.Node) string {
	out := ""
	for _, n := range l {
		if n.Name == "" {
			out += n.Text
		} else {
			out += said(n.Kids)
		}
	}
	return out
}

// equal tells whether trees are the same, field by field, as the chapter's words have it.
func equal(a, b []api.Node) bool {
	if len(a) != len(b) {
		return false
	}
	for i := range a {
		x, y := a[i], b[i]
		if x.Name != y.Name || x.Text != y.Text || len(x.Attrs) != len(y.Attrs) || !equal(x.Kids, y.Kids) {
			return false
		}
		for j := range x.Attrs {
			if x.Attrs[j].Name != y.Attrs[j].Name || x.Attrs[j].Value != y.Attrs[j].Value {
				return false
			}
		}
	}
	return true
}

func holdWrite(t *testing.T, want string, l ...api.Node) {
	t.Helper()
	if s := ser.Write(l); s != want {
		t.Errorf("P15.1: Write(%.300s) is %.300q, not %.300q", shown(l), s, want)
	}
}

func holdText(t *testing.T, want string, l ...api.Node) {
	t.Helper()
	if s := ser.Text(l); s != want {
		t.Errorf("P15.2: Text(%.300s) is %.300q, not %.300q", shown(l), s, want)
	}
}

func holdStable(t *testing.T, want bool, l ...api.Node) {
	t.Helper()
	if ser.Stable(l) != want {
		t.Errorf("P15.3: Stable(%.300s) is not %v", shown(l), want)
	}
}

func TestWrite(t *testing.T) { // P15.1
	holdWrite(t, "")
	holdWrite(t, "<p>a&lt;b</p>", in("p", text("a<b")))
	holdWrite(t, "a&lt;b&gt;&amp;amp;\"'&nbsp;\xff\x00\r\n", text("a<b>&amp;\"'\u00a0\xff\x00\r\n"))
	holdWrite(t, "\xc2\xa1\xa0\xc2", text("\xc2\xa1\xa0\xc2"))
	holdWrite(t, "", text(""), text(""))
	holdWrite(t, "ab", text("a"), text(""), text("b"))
	holdWrite(t, "<a b=\"c&lt;d&gt;&amp;&quot;'&nbsp;\xff\" e=\"\"></a>", with(in("a"), "b", "c<d>&\"'\u00a0\xff", "e", ""))
	holdWrite(t, "<b></b><i>x<u><s></s>y</u></i>z", in("b"), in("i", text("x"), in("u", in("s"), text("y"))), text("z"))
	holdWrite(t, "<p><div>x</div></p>", in("p", in("div", text("x"))))
	holdWrite(t, "<ul><li>a</li><li></li></ul>", in("ul", in("li", text("a")), in("li")))
	// names are as they stand, and each attribute is there
	holdWrite(t, "<B \"=\"1\" \"=\"2\" =\"3\" x&<=\"4\"></B>", with(in("B"), "\"", "1", "\"", "2", "", "3", "x&<", "4"))
	holdWrite(t, "<a b\xff&\u00a0>&amp;</a b\xff&\u00a0>", in("a b\xff&\u00a0", text("&")))
	holdWrite(t, "< ></ ></><//>", in(" "), in("/"))
	many, want := in("a"), "<a"
	for i := range 100 {
		many.Attrs = append(many.Attrs, api.Attr{Name: "n" + strconv.Itoa(i/2), Value: "v"})
		want += " n" + strconv.Itoa(i/2) + "=\"v\""
	}
	holdWrite(t, want+"></a>", many)
	// what a node should not have counts for nothing
	odd := with(in("", in("b"), text("x")), "c", "d")
	odd.Text = "y&"
	holdWrite(t, "y&amp;", odd)
	odd.Name = "i"
	holdWrite(t, "<i c=\"d\"><b></b>x</i>", odd)
	odd.Text = ""
	odd.Name = ""
	holdWrite(t, "", odd, odd)
}

func TestWriteVoidOnes(t *testing.T) { // P15.1
	for _, name := range voids() {
		holdWrite(t, "<"+name+">", in(name))
		holdWrite(t, "x<"+name+" a=\"&amp;\">y", text("x"), with(in(name), "a", "&"), text("y"))
		holdWrite(t, "<p>x<"+name+">y</p>z", in("p", text("x"), in(name, text("u"), in("b", text("v")), in(name)), text("y")), text("z"))
		for _, other := range []string{strings.ToUpper(name), name + " ", "x" + name, name + "\x00", name[:1] + "-"} {
			holdWrite(t, "<"+other+">u&amp;<b></b></"+other+">", in(other, text("u&"), in("b")))
		}
	}
}

func TestWriteRawOnes(t *testing.T) { // P15.1
	const signs = "<&>\"\u00a0&amp;</b>\xff"
	inner := in("b", text("u"), in("i", text("v")))
	for _, name := range raws() {
		holdWrite(t, "<"+name+"></"+name+">", in(name))
		holdWrite(t, "<"+name+" a=\"&amp;\">"+signs+"</"+name+">&amp;", with(in(name, text(signs)), "a", "&"), text("&"))
		holdWrite(t, "<p><"+name+">x"+signs+"yz</"+name+">&lt;</p>", in("p", in(name, inner, text("x"), inner, text(signs), text(""), in("br"), text("y"), in(name, text("w")), text("z"), inner), text("<")))
		holdWrite(t, "<"+name+">x</"+name+"></"+name+">", in(name, text("x</"+name+">")))
		// a text has nothing in it but its Text
		odd := with(in("", text("w"), inner), "c", "d")
		odd.Text = "<x>"
		holdWrite(t, "<"+name+"><x>y</"+name+">", in(name, odd, text("y")))
		for _, other := range []string{strings.ToUpper(name), name + " ", "x" + name, name + "s", name + "\x00", name[1:]} {
			holdWrite(t, "<"+other+">&lt;<b>u<i>v</i></b></"+other+">", in(other, text("<"), inner))
		}
	}
}

func TestText(t *testing.T) { // P15.2
	holdText(t, "")
	holdText(t, "a<b&", text("a<b&"))
	holdText(t, "&amp;\u00a0\xff\x00\"", text("&amp;\u00a0"), text("\xff\x00"), text(""), text("\""))
	holdText(t, "", in("p"), in("br"), in("ul", in("li")))
	holdText(t, "abcde", text("a"), in("p", text("b"), in("i", in("u", text("c"))), text("d")), text("e"))
	holdText(t, "xy", with(in("a", text("x")), "title", "t", "alt", "u"), with(in("img"), "alt", "v"), text("y"))
	// what no document has in it is told likewise
	for _, name := range append(append(voids(), raws()...), "B", " ") {
		holdText(t, "<x>yz&", in(name, text("<x>"), in("b", text("y"), in(name, text("z")))), text("&"))
	}
	odd := with(in("", in("b"), text("x")), "c", "d")
	odd.Text = "y"
	holdText(t, "y", odd)
	odd.Name = "i"
	holdText(t, "x", odd)
}

func TestStable(t *testing.T) { // P15.3
	for _, l := range [][]api.Node{
		nil, {}, {text("a")}, {in("p", text("a<b"))}, {in("b")}, {in("br")}, {with(in("a", text("y\u00a0")), "href", "x\"&", "c", ""), in("br")}, {text("a"), in("b"), text("b")}, {in("ul", in("li", text("a")), in("li"))}, {in("p", text("x")), in("p", text("y"))}, {in("b", in("b", text("x")), text("y"))}, {in("table", in("tr", in("td", in("p", text("x")), in("table", in("tr", in("td"))))))}, {in("style", text("<&amp;<b></b>"))}, {in("title"), text("x")}, {in("a", in("table", in("tr", in("td", in("a")))))}, {in("p", in("button", in("p")))}, {in("dl", in("dt", in("dl", in("dt"))))}, {in("x-y:z\u00e9", text("&amp;"))}, {with(in("b"), "a&\"'<\xff", "", "=", "=")}, {with(in("hr"), "a", "<\">'&amp;\r\n")}, {text("</p><!--x--><p>&#65;")}, {in("b", text(" \n"))}, {in("a<b"), in("a=\"b&")}, {in("font", in("span", in("center", in("h1", text("x")))))},
	} {
		holdStable(t, true, l...)
	}
	odd := in("p", text("x"))
	odd.Text = "y"
	full := text("x")
	full.Kids = []api.Node{text("y")}
	for _, l := range [][]api.Node{
		// texts
		{text("")}, {text("a"), text("b")}, {text("a"), text("")}, {in("p", text(""))}, {in("p", text("x"), text("y"))}, {in("b"), text(""), in("b")},
		// fields that a document gives no value
		{odd}, {full}, {with(text("x"), "a", "b")}, {in("p", with(text("x"), "", ""))}, {in("p", in("b", odd))}, {{Text: "x", Kids: []api.Node{in("b")}}}, {{}},
		// void and raw ones
		{in("br", text("x"))}, {in("img", in("b"))}, {in("hr", text(""))}, {in("style", in("b"))}, {in("style", text("<&"), in("b"))}, {in("style", text("a"), text("b"))}, {in("title", text("x</title>"))}, {in("script", text("x</SCRIPT y"))}, {in("textarea", text(""))}, {in("plaintext")}, {in("plaintext", text("x"))},
		// one that closes another one, where none stands between
		{in("p", in("div"))}, {in("p", in("p"))}, {in("p", in("b", in("ul")))}, {in("a", in("a"))}, {in("a", in("b", in("a")))}, {in("li", in("li"))}, {in("h1", in("h2"))}, {in("button", in("button"))}, {in("td", in("tr"))}, {in("dd", in("p", in("dt")))}, {in("option", in("option"))}, {in("nobr", in("i", in("nobr")))},
		// names that are read otherwise
		{in("B")}, {in("bR")}, {in("1")}, {in("a b")}, {in("a>")}, {in("/")}, {in("a/")}, {in(" ")}, {in("\u00e9")}, {in("!--")}, {in("<b")}, {in("b\n")}, {in("?")}, {in("b", in("X"))},
		// attributes that are read otherwise
		{with(in("b"), "A", "")}, {with(in("b"), "", "")}, {with(in("b"), "", "x")}, {with(in("b"), "a b", "")}, {with(in("b"), "a>", "c")}, {with(in("b"), "a=", "c")}, {with(in("b"), "/", "c")}, {with(in("b"), "a/c", "d")}, {with(in("b"), "a", "c", "a", "d")}, {with(in("b"), "a", "c", "a", "c")}, {with(in("br"), "a\t", "c")}, {with(in("b"), " a", "c")},
	} {
		holdStable(t, false, l...)
		holdStable(t, false, append([]api.Node{in("i", text("u"))}, l...)...)
		holdStable(t, false, in("span", append([]api.Node{in("i", text("u"))}, l...)...))
	}
}

func TestStableOfEmptyLists(t *testing.T) { // P15.3
	none := func(node api.Node) api.Node {
		node.Attrs = []api.Attr{}
		if len(node.Kids) == 0 {
			node.Kids = []api.Node{}
		}
		return node
	}
	holdStable(t, true, none(text("x")))
	holdStable(t, true, none(in("br")), none(in("p", none(text("x")), none(in("b")))))
	holdStable(t, true, with(none(in("br")), "a", "b"))
	holdStable(t, false, none(text("")))
	holdStable(t, false, none(in("p", none(in("p")))))
}

// nest is nodes within so many elements.
func nest(levels int, l ...api.Node) []api.Node {
	for range levels {
		l = []api.Node{in("b", l...)}
	}
	return l
}

func TestStableAtTheLimits(t *testing.T) { // P15.3
	for levels := range 40 {
		holdStable(t, true, nest(min(levels, 31))...)
		holdStable(t, levels <= 31, nest(levels)...)
		holdStable(t, levels <= 30, nest(levels, text("x"))...)
		holdStable(t, levels <= 30, nest(levels, in("br"), text("x"))...)
		holdStable(t, levels <= 29, nest(levels, in("b"), text("x"))...)
		holdStable(t, levels <= 29, nest(levels, in("i", text("x")))...)
		// the end of one that is not open is nothing, but where another one has its name
		holdStable(t, levels <= 30, nest(levels, in("i"), text("x"))...)
	}
	for count := 4990; count <= 5010; count++ {
		row := slices.Repeat([]api.Node{in("br")}, count)
		holdStable(t, count <= 5000, row...)
		holdStable(t, count <= 4999, in("p", row...))
		holdStable(t, count <= 4999, append(row, text("x"))...)
		holdStable(t, count <= 4998, append([]api.Node{in("p", text("x"))}, row...)...)
	}
	row := slices.Repeat([]api.Node{in("i", text("x"))}, 2500)
	holdStable(t, true, row...)
	holdStable(t, false, append(row, text("y"))...)
	many := in("b")
	for count := 1; count <= 40; count++ {
		many.Attrs = append(many.Attrs, api.Attr{Name: "n" + strconv.Itoa(count), Value: "v"})
		holdStable(t, count <= 30, many)
		holdStable(t, count <= 30, in("p", text("x"), many, text("y")))
	}
}

// grower makes trees of all sorts.
type grower struct {
	random *rand.Rand
	names  []string
	odd    int // one of so many nodes has what no document gives it; 0: none
}

func (g *grower) rare() bool { return g.odd > 0 && g.random.Intn(g.odd) == 0 }

func (g *grower) words() string {
	row := []string{"a", " ", "<", ">", "&", "\"", "'", "&lt;", "&#65;", "amp;", "<b>", "</p>", "<!--", "-->", "</style>", "\u00a0", "\xc2", "\xa0", "\xff", "\x00", "\r\n", "\u20ac"}
	s := ""
	for range g.random.Intn(4) {
		s += row[g.random.Intn(len(row))]
	}
	if s == "" && !g.rare() {
		return "x"
	}
	return s
}

func (g *grower) attrs() []api.Attr {
	var l []api.Attr
	for _, name := range []string{"href", "b", "c-d", "=", "\"", "\u00e9&"} {
		if g.random.Intn(6) == 0 {
			l = append(l, api.Attr{Name: name, Value: g.words()})
		}
	}
	if g.rare() {
		l = append(l, api.Attr{Name: []string{"B", "", "a b", "href", "/", ">"}[g.random.Intn(6)], Value: g.words()})
	}
	return l
}

func (g *grower) grow(most int) []api.Node {
	var l []api.Node
	for range g.random.Intn(most + 1) {
		if n := len(l); g.random.Intn(3) == 0 && (n == 0 || l[n-1].Name != "" || g.rare()) {
			l = append(l, text(g.words()))
		} else {
			name := g.names[g.random.Intn(len(g.names))]
			node := api.Node{Name: name, Attrs: g.attrs()}
			if !slices.Contains(voids(), name) || g.rare() {
				node.Kids = g.grow(most - 1)
			}
			l = append(l, node)
		}
		if node := &l[len(l)-1]; g.rare() {
			switch g.random.Intn(4) {
			case 0:
				node.Text += g.words()
			case 1:
				node.Kids = g.grow(2)
			case 2:
				node.Attrs = g.attrs()
			case 3:
				node.Name = strings.ToUpper(node.Name)
			}
		}
	}
	return l
}

func growers(seed int64) []*grower {
	random := rand.New(rand.NewSource(seed))
	var l []*grower
	for _, names := range [][]string{
		{"b", "i", "span", "br"}, {"p", "b", "div", "ul", "li"}, {"table", "tr", "td", "p", "hr"}, {"a", "button", "h1", "h2", "img"}, {"style", "title", "b", "script", "br"}, append(voids(), raws()...), {"b", "B", "p>", "a/b", "1", "x:y"},
	} {
		for _, odd := range []int{0, 60, 8} {
			l = append(l, &grower{random, names, odd})
		}
	}
	return l
}

func TestMixed(t *testing.T) { // P15.1, P15.2, P15.3
	counts := map[bool]int{}
	for n, row := 0, growers(151); n < 40000; n++ {
		l := row[n%len(row)].grow(1 + n%6)
		holdWrite(t, written(l), l...)
		holdText(t, said(l), l...)
		stable := equal(tree.Build(written(l)), l)
		holdStable(t, stable, l...)
		if t.Failed() {
			return
		}
		if tree.Count(l) > 2 {
			counts[stable]++
		}
	}
	if counts[true] < 3000 || counts[false] < 3000 {
		t.Errorf("P15.3: only %d stable ones, %d others", counts[true], counts[false])
	}
}

// copied is a tree of its own.
func copied(l []api.Node) []api.Node {
	out := slices.Clone(l)
	for i, node := range out {
		out[i].Attrs = slices.Clone(node.Attrs)
		out[i].Kids = copied(node.Kids)
	}
	return out
}

// nodesOf are all nodes of a tree, from its begin on.
func nodesOf(l []api.Node) []*api.Node {
	var out []*api.Node
	for i := range l {
		out = append(out, &l[i])
		out = append(out, nodesOf(l[i].Kids)...)
	}
	return out
}

func TestOneFieldMakesAnother(t *testing.T) { // P15.3
	const s = "<p a=b c=d>x<b e=f>y<br g=h></b><i></i>z</p><ul><li>u<li><a href=i>v</a></ul><style j=k>w</style>w"
	l := tree.Build(s)
	holdStable(t, true, l...)
	if len(nodesOf(l)) != 16 {
		t.Fatalf("P15.3: %s", shown(l))
	}
	for at := range nodesOf(l) {
		for what, change := range map[string]func(node *api.Node){
			"a name in capitals": func(node *api.Node) { node.Name = strings.ToUpper(node.Name + "x") },
			"a text or another":  func(node *api.Node) { node.Text = strings.Repeat(node.Text+"y", min(1, len(node.Name))) },
			"an attribute twice": func(node *api.Node) { node.Attrs = append(node.Attrs, api.Attr{Name: "m"}, api.Attr{Name: "m"}) },
			"an attribute apart": func(node *api.Node) { node.Attrs = append(node.Attrs, api.Attr{Name: "m n", Value: "o"}) },
			"an empty text":      func(node *api.Node) { node.Kids = append(node.Kids, text("")) },
			"two texts":          func(node *api.Node) { node.Kids = append(node.Kids, text("m"), text("n")) },
		} {
			changed := copied(l)
			change(nodesOf(changed)[at])
			if ser.Stable(changed) {
				t.Errorf("P15.3: with %s is stable: %s", what, shown(changed))
			}
		}
	}
}

func TestWhatIsStableStays(t *testing.T) { // P15.4
	hold := func(l []api.Node) bool {
		t.Helper()
		if !ser.Stable(l) {
			return false
		}
		s, again := ser.Write(l), l
		for range 3 {
			again = tree.Build(ser.Write(again))
			if !equal(again, l) || ser.Write(again) != s || !ser.Stable(again) {
				t.Fatalf("P15.4: %s is stable, but %s then", shown(l), shown(again))
			}
		}
		return true
	}
	stable := 0
	for n, row := 0, growers(154); n < 15000; n++ {
		if hold(row[n%len(row)].grow(1+n%5)) && n%5 > 1 {
			stable++
		}
	}
	if stable < 1000 {
		t.Errorf("P15.4: only %d stable ones", stable)
	}
	for _, s := range []string{"<p>a<b>c</b></p><ul><li>d</li></ul>", "", "x", "&amp;&lt;", "<br><hr a=\"b\">"} {
		if l := tree.Build(s); !hold(l) || ser.Write(l) != s {
			t.Errorf("P15.4: %q is written as %q", s, ser.Write(l))
		}
	}
	// the tree of a document need not be
	for _, s := range []string{"<plaintext>x", strings.Repeat("<b>", 31) + "x", strings.Repeat("<b>", 30) + "<b>x</b>y"} {
		holdStable(t, false, tree.Build(s)...)
	}
}

func TestTextsAreStable(t *testing.T) { // P15.4
	for c := range 256 {
		b := string([]byte{byte(c)})
		for _, s := range []string{b, b + b, "<" + b, "&" + b, b + ">", "</" + b, "&#" + b + ";", b + "amp;", "\xc2" + b, "<!" + b + "-->"} {
			holdStable(t, true, text(s))
		}
	}
	const pieces = "<>&#;/!?-x6amplt\"'= \n\x00\xc2\xa0\xff"
	random := rand.New(rand.NewSource(155))
	for range 5000 {
		s := make([]byte, 1+random.Intn(12))
		for i := range s {
			s[i] = pieces[random.Intn(len(pieces))]
		}
		holdStable(t, true, text(string(s)))
	}
	holdStable(t, true, text(strings.Repeat("<b>&amp;\u00a0", 50000)))
	holdStable(t, false, text(""))
}

func TestVeryDeepOnes(t *testing.T) { // R1
	const levels = 100000
	// With so little room for calls, one for each level would end the program.
	defer debug.SetMaxStack(debug.SetMaxStack(1 << 21))
	for _, name := range []string{"b", "p"} {
		l := []api.Node{text("x")}
		for range levels {
			l = []api.Node{text("y"), {Name: name, Kids: l}, text("z")}
		}
		want := strings.Repeat("y<"+name+">", levels) + "x" + strings.Repeat("</"+name+">z", levels)
		if s := ser.Write(l); s != want {
			t.Errorf("P15.1: a very deep tree is %d bytes, not %d", len(s), len(want))
		}
		if s := ser.Text(l); s != strings.Repeat("y", levels)+"x"+strings.Repeat("z", levels) {
			t.Errorf("P15.2: the texts of a very deep tree are %d bytes", len(s))
		}
		if ser.Stable(l) {
			t.Error("P15.3: a very deep tree is stable")
		}
		if s := ser.Write([]api.Node{{Name: "style", Kids: l}, {Name: "br", Kids: l}, {Text: "u", Kids: l}}); s != "<style>yz</style><br>u" {
			t.Errorf("P15.1: in raw and void ones, and in texts: %.200q", s)
		}
	}
}

func TestLongOnesEnd(t *testing.T) { // R1
	const size = 1 << 16
	for one, node := range map[string]api.Node{"<br>": in("br"), "<b>x</b>": in("b", text("x")), "&lt;": text("<"), "": text(""), "<p a=\"b\"></p>": with(in("p"), "a", "b"), "<style>x</style>": in("style", text("x"))} {
		l := slices.Repeat([]api.Node{node}, size)
		holdWrite(t, strings.Repeat(one, size), l...)
		holdText(t, strings.Repeat(said([]api.Node{node}), size), l...)
		holdStable(t, false, l...)
	}
}

// roomy is a tree whose lists have room behind them, in which something stands.
func roomy(l []api.Node) []api.Node {
	out := append(slices.Clone(l), in("spare"))
	for i, node := range l {
		out[i].Kids = roomy(node.Kids)
		out[i].Attrs = append(slices.Clone(node.Attrs), api.Attr{Name: "spare"})[:len(node.Attrs)]
	}
	return out[:len(l)]
}

// roomStays tells whether it still stands there.
func roomStays(l []api.Node) bool {
	if l[:len(l)+1][len(l)].Name != "spare" {
		return false
	}
	for _, node := range l {
		if node.Attrs[:len(node.Attrs)+1][len(node.Attrs)].Name != "spare" || !roomStays(node.Kids) {
			return false
		}
	}
	return true
}

func TestWhatIsHandedInStays(t *testing.T) { // R5, R6
	for n, row := 0, growers(156); n < 3000; n++ {
		l := roomy(row[n%len(row)].grow(1 + n%5))
		want := copied(l)
		s, said, stable := ser.Write(l), ser.Text(l), ser.Stable(l)
		if ser.Write(l) != s || ser.Text(l) != said || ser.Stable(l) != stable {
			t.Fatalf("R6: %s", shown(l))
		}
		if !reflect.DeepEqual(l, want) || !roomStays(l) {
			t.Fatalf("R5: %s, not %s", shown(l), shown(want))
		}
	}
}

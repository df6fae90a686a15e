package settle_test

import (
	"math/rand"
	"reflect"
	"runtime/debug"
	"slices"
	"strconv"
	"strings"
	"testing"
	"unicode/utf8"

	"muslin/api"
	"muslin/chars"
	"muslin/ent"
	"muslin/ser"
	"muslin/settle"
	"muslin/tree"
	"muslin/wash"
)

var all = api.Policy{Remote: true, Styles: true, Quotes: true}

// came are files that came with a message: the first one and the last one are pictures.
var came = []api.Attached{{Name: "a", Kind: "image/png", Id: "x"}, {Name: "b", Kind: "text/css", Id: "y"}, {Name: "c", Kind: "image/gif", Id: "z"}}

func text(s string) api.Node { return api.Node{Text: s} }

func in(name string, kids ...api.Node) api.Node { return api.Node{Name: name, Kids: kids} }

// with is an element that has attributes, of names and values by turns.
func with(node api.Node, row ...string) api.Node {
	node.Attrs = nil
	for i := 0; i < len(row); i += 2 {
		node.Attrs = append(node.Attrs, api.Attr{Name: row[i], Value: row[i+1]})
	}
	return node
}

// nest is a row of elements, each one in the one ahead; in the last one stand some nodes.
func nest(names []string, kids ...api.Node) []api.Node {
	for _, name := range slices.Backward(names) {
		kids = []api.Node{in(name, kids...)}
	}
	return kids
}

// times is a name so many times, and others behind it.
func times(n int, name string, others ...string) []string {
	return append(slices.Repeat([]string{name}, n), others...)
}

// shown is a tree in short, with all that stands in any field.
func shown(l []api.Node) string {
	var row []string
	for _, n := range l {
		s := n.Name
		for _, a := range n.Attrs {
			s += " " + strconv.Quote(a.Name) + "=" + strconv.Quote(a.Value)
		}
		if n.Text != "" || n.Name == "" {
			s += strconv.Quote(n.Text)
		}
		if n.Name != "" || len(n.Kids) > 0 {
			s += "[" + shown(n.Kids) + "]"
		}
		row = append(row, s)
	}
	return strings.Join(row, " ")
}

// isSettled tells whether a document is, by the chapter's words.
func isSettled(p api.Policy, files []api.Attached, s string) bool {
	t := tree.Build(s)
	return ser.Write(t) == s && shown(wash.Clean(p, files, t)) == shown(t)
}

// settled tells whether a document is.
func settled(t *testing.T, p api.Policy, files []api.Attached, s string, want bool) {
	t.Helper()
	if settle.Settled(p, files, s) != want {
		t.Errorf("P23.1: Settled(%v, %d files, %.300q) is %v", p, len(files), s, !want)
	}
}

func TestSettled(t *testing.T) { // P23.1
	for _, s := range []string{
		"", "a", " ", "\n", "a\r\nb", "\x00", "a&lt;b&gt;c&amp;d&nbsp;\"'", "\u00e9\u2026\U0010ffff", "&amp;lt;",
		"<b></b>", "<br>", "<hr><hr>", "<b>x</b>", "<p>a</p><p>b</p>", "<p>a<b>b</b></p><div>c</div>", "x<br>y", "<ul><li>a</li><li>b<ul><li>c</li></ul></li></ul>",
		"<b title=\"x\">y</b>", "<b title=\"\">y</b>", "<b title=\"&lt;&gt;&amp;&quot;&nbsp;\" dir=\"ltr\" lang=\"en\">y</b>", "<b lang=\"en\" title=\"x\">y</b>", "<br title=\"x\">",
		"<a>x</a>", "<a href=\"http://h\" rel=\"noopener noreferrer\">x</a>", "<a href=\"mailto:a@b\" title=\"x\" rel=\"noopener noreferrer\"><b>x</b></a>", "<a title=\"x\" href=\"HTTPS://h\" rel=\"noopener noreferrer\"></a>",
		"<ol start=\"7\"><li value=\"9999\">x</li></ol>", "<h1>a</h1><h2>b</h2>", "<dl><dt>a</dt><dd>b</dd></dl>", "<pre>\n a\n</pre>", "<blockquote>a<blockquote>b</blockquote></blockquote>", "<ul><ol><p></p></ol></ul>",
		"<div title=\"quoted\"><blockquote>x</blockquote></div>", "<p>a</p>b", "<li>a</li><li>b</li>",
	} {
		settled(t, api.Policy{}, nil, s, true)
		settled(t, all, came, s, true)
		// what is wrong behind it, or ahead of it, is wrong
		settled(t, all, came, s+"<script></script>", false)
		settled(t, all, came, "<B>x</B>"+s, false)
		settled(t, all, came, s+"<", false)
	}
}

func TestNotSettled(t *testing.T) { // P23.1
	for _, s := range []string{
		// read, they are not written so
		"<", ">", "&", "a<b", "a&b", "&#65;", "&quot;", "&LT;", "\u00a0", "<!--x-->", "<!doctype html>", "<?x>", "</>", "</b>", "<b", "<b>", "<b>x", "<P>a</P>", "<b>x</B>", "<b >x</b>", "<b/>", "<br/>", "<br></br>", "<hr />",
		"<p>a<p>b", "<p>a<p>b</p></p>", "<p>a<div>b</div></p>", "<li>a<li>b</li></li>", "<b><i>x</b></i>", "<h1>a<h2>b</h2></h1>", "<dd>a<dt>b</dt></dd>", "<a>x<a>y</a></a>",
		"<b title=x>y</b>", "<b title='x'>y</b>", "<b title>y</b>", "<b title = \"x\">y</b>", "<b  title=\"x\">y</b>", "<b TITLE=\"x\">y</b>", "<b title=\"<\">y</b>", "<b title=\"&\">y</b>", "<b title=\"x\" title=\"x\">y</b>", "<b title=\"x\"lang=\"en\">y</b>",
		// washed, they are not themselves
		"\xff", "a\xc3", "<b title=\"\xff\">x</b>", "<script></script>", "<script>x</script>", "<style></style>", "<title>x</title>", "<font>x</font>", "<table></table>", "<td></td>", "<x></x>", "<b1></b1>", "<input>", "<link>", "<meta>", "<svg></svg>", "<iframe></iframe>", "<form></form>",
		"<b onclick=\"x\">y</b>", "<b class=\"x\">y</b>", "<b id=\"x\">y</b>", "<b href=\"http://h\">x</b>", "<b dir=\"x\">y</b>", "<b lang=\"\">y</b>", "<b rel=\"noopener noreferrer\">x</b>",
		"<a href=\"http://h\">x</a>", "<a href=\"\">x</a>", "<a href=\"x\">y</a>", "<a href=\"javascript:x\">y</a>", "<a rel=\"noopener noreferrer\">x</a>", "<a rel=\"noopener noreferrer\" href=\"http://h\">x</a>", "<a href=\"http://h\" rel=\"noopener\">x</a>", "<a href=\" http://h\" rel=\"noopener noreferrer\">x</a>", "<a href=\"http://h\" rel=\"noopener noreferrer\" title=\"x\">x</a>",
		"<a>x<ul><li><a>y</a></li></ul></a>", "<img>", "<img alt=\"x\">", "<img src=\"\">", "<img src=\"x\">", "<img src=\"cid:x\">", "<img src=\"http://h\">", "<img src=\"att:1\">", "<img src=\"att:3\">", "<img src=\"att:00\">", "<img src=\"att:0\" width=\"1\">", "<img src=\"att:0\" height=\"0\">", "<img src=\"data:image/png,x\">", "<img title=\"x\">",
		"<b style=\"\">x</b>", "<b style=\"color:red\">x</b>", "<b style=\"color: red;\">x</b>", "<b style=\"color: red; color: red\">x</b>", "<b style=\"background: url(x)\">x</b>", "<b style=\"COLOR: red\">x</b>", "<ol start=\"\"></ol>", "<ol start=\"12345\"></ol>", "<li value=\"-1\"></li>",
	} {
		settled(t, api.Policy{}, nil, s, false)
		settled(t, all, came, s, false)
		settled(t, all, came, "a"+s, false)
	}
}

func TestSettledByPolicyAndFiles(t *testing.T) { // P23.1
	for s, want := range map[string]api.Policy{"<b style=\"color: red\">x</b>": {Styles: true}, "<img src=\"https://h/\">": {Remote: true}, "<p style=\"margin: 1px; color: red\">x<img src=\"https://h\" alt=\"y\"></p>": {Styles: true, Remote: true}} {
		for n := range 8 {
			p := api.Policy{Remote: n&1 > 0, Styles: n&2 > 0, Quotes: n&4 > 0}
			settled(t, p, came, s, p.Remote == want.Remote && p.Styles == want.Styles || p.Remote && p.Styles)
		}
	}
	for at := range 5 {
		s := "<img src=\"att:" + strconv.Itoa(at) + "\" alt=\"x\" width=\"20\">"
		for n := range came {
			settled(t, api.Policy{}, came[:n], s, at < n && at != 1)
		}
		settled(t, api.Policy{}, came, s, at == 0 || at == 2)
		settled(t, all, nil, s, false)
	}
	for _, kind := range []string{"", "image", "image/", "image/svg+xml", "text/html", "IMAGE/png", "ximage/png"} {
		settled(t, all, []api.Attached{{Kind: kind}}, "<img src=\"att:0\">", strings.HasPrefix(kind, "image/"))
	}
}

func TestSettledAtTheBounds(t *testing.T) { // P23.1
	for name, most := range map[string]int{"div": 30, "b": 30, "blockquote": 30, "ul": 30, "i": 30} {
		for n := range 40 {
			begin, end := strings.Repeat("<"+name+">", n), strings.Repeat("</"+name+">", n)
			settled(t, all, nil, begin+end, n <= most+1)
			settled(t, all, nil, begin+"a"+end, n <= most)
			settled(t, all, nil, begin+"<br>"+end, n <= most)
			settled(t, all, nil, begin+"<s></s>"+end, n <= most)
			settled(t, all, nil, begin+"<s>a</s>"+end, n < most)
		}
	}
	for n, want := range map[int]bool{2499: true, 2500: true, 2501: false} {
		settled(t, all, nil, strings.Repeat("a<br>", n), want)
		settled(t, all, nil, strings.Repeat("<p>a</p>", n), want)
	}
	settled(t, all, nil, strings.Repeat("<br>", 5000), true)
	settled(t, all, nil, strings.Repeat("<br>", 5000)+"a", false)
	settled(t, all, nil, strings.Repeat("<br>", 4999)+strings.Repeat("a", 100000), true)
}

func TestNotice(t *testing.T) { // P23.2
	for s, want := range map[string]string{
		"": "", "a": "a", " a\r\n\tb ": " a\r\n\tb ", "<b>\xff": "&lt;b&gt;\ufffd", "<script>x</script>": "&lt;script&gt;x&lt;/script&gt;", "&amp;": "&amp;amp;", "\u00a0": "&nbsp;", "\"'": "\"'",
		"\xc3": "\ufffd", "\xe2\x82": "\ufffd\ufffd", "\xed\xa0\x80": "\ufffd\ufffd\ufffd", "\xc2\xa0\xc2": "&nbsp;\ufffd", "\xa0": "\ufffd", "caf\u00e9": "caf\u00e9", "This message is too long.": "This message is too long.",
	} {
		if u := settle.Notice(s); u != want {
			t.Errorf("P23.2: Notice(%q) is %q, not %q", s, u, want)
		}
	}
	random := rand.New(rand.NewSource(231))
	for range 20000 {
		b := make([]byte, random.Intn(12))
		for i := range b {
			b[i] = "<>&;a\"\xc2\xa0\xff#6\n"[random.Intn(12)]
		}
		s := string(b)
		u := settle.Notice(s)
		if want := ent.Text(chars.Valid(s)); u != want {
			t.Fatalf("P23.2: Notice(%q) is %q, not %q", s, u, want)
		}
		settled(t, api.Policy{}, nil, u, true)
		if back := ser.Text(tree.Build(u)); back != chars.Valid(s) {
			t.Fatalf("P23.2: Notice(%q) says %q", s, back)
		}
	}
}

// becomes tells what a tree is settled to, and behind how many rounds.
func becomes(t *testing.T, l []api.Node, want string, rounds int) {
	t.Helper()
	if s, n := settle.Settle(all, came, l); s != want || n != rounds {
		t.Errorf("P23.3: Settle(%.300s) is %.300q, %d, not %.300q, %d", shown(l), s, n, want, rounds)
	}
	settled(t, all, came, want, true)
}

func TestSettle(t *testing.T) { // P23.3
	becomes(t, nil, "", 0)
	becomes(t, []api.Node{}, "", 0)
	becomes(t, []api.Node{text("")}, "", 0)
	becomes(t, []api.Node{text("a<b"), text("\xff&")}, "a&lt;b\ufffd&amp;", 0)
	becomes(t, tree.Build("<p>a<p>b"), "<p>a</p><p>b</p>", 0)
	becomes(t, tree.Build("<font><b onclick=x>y</b></font><script>z</script><img src=http://h><img src=cid:z>"), "<b>y</b>[picture]<img src=\"att:2\">", 0)
	becomes(t, tree.Build("<a href=http://h>x<ul><li><a href=http://i>y"), "<a href=\"http://h\" rel=\"noopener noreferrer\">x<ul><li>y</li></ul></a>", 0)
	becomes(t, []api.Node{in("font"), in("script", text("x")), in("br", text("y")), in("img")}, "<br>", 0)
	// what no document is read to, or what is not so any more once it is washed
	becomes(t, []api.Node{in("p", text("a"), in("p", text("b")), text("c"))}, "<p>a</p><p>b</p>c", 1)
	becomes(t, []api.Node{in("p", in("div"))}, "<p></p><div></div>", 1)
	becomes(t, []api.Node{in("li", in("font", in("li", text("y"))))}, "<li></li><li>y</li>", 1)
	becomes(t, []api.Node{in("h1", in("h6", text("a")), text("b"))}, "<h1></h1><h6>a</h6>b", 1)
	becomes(t, tree.Build("<ul><li>a<table><tr><td><li>b</table>"), "<ul><li>a</li><li>b</li></ul>", 1)
	becomes(t, tree.Build("<dl><dd>a<marquee><dt>b"), "<dl><dd>a</dd><dt>b</dt></dl>", 1)
	becomes(t, []api.Node{in("dd", in("dt", in("dd")))}, "<dd></dd><dt></dt><dd></dd>", 1)
}

func TestRounds(t *testing.T) { // P23.3
	i := func(n int, s string) string { return strings.Repeat(s, n) }
	a := text("a")
	becomes(t, nest(times(30, "i"), a), i(30, "<i>")+"a"+i(30, "</i>"), 0)
	becomes(t, nest(times(30, "i", "b"), a), i(30, "<i>")+"<b></b>a"+i(30, "</i>"), 1)
	// with each round a text comes out of one div more: each one's end is taken for that of the one around it
	becomes(t, nest(times(29, "i", "div", "div"), a), i(29, "<i>")+"<div><div></div></div>a"+i(29, "</i>"), 2)
	becomes(t, nest(times(28, "i", "div", "div", "div"), a), i(28, "<i>")+"<div><div><div></div></div></div>a"+i(28, "</i>"), 3)
	becomes(t, nest(times(27, "i", "div", "div", "div", "div"), a), "a", 4)
	becomes(t, nest(times(26, "i", "div", "div", "div", "div", "div"), a), "a", 4)
	// what never comes out of them all in so few rounds is a text alone, in which nothing is lost that stayed
	becomes(t, tree.Build(i(31, "<div>")+"a"), "a", 4)
	becomes(t, nest(times(100, "div"), text("x<y\xff\u00a0"), in("br"), in("script", text("z")), with(in("img"), "src", "http://h", "alt", "<w>")), "x&lt;y\ufffd&nbsp;[&lt;w&gt;]", 4)
	becomes(t, append([]api.Node{in("p", text("1 < "))}, nest(times(31, "div"), text("2"), in("u", text("3")))...), "1 &lt; 23", 4)
	becomes(t, nest(times(31, "div"), in("br"), in("b")), "", 4)
	// nodes that are too many
	becomes(t, slices.Repeat([]api.Node{in("br")}, 5001), i(5000, "<br>"), 1)
	becomes(t, slices.Repeat([]api.Node{in("br"), a}, 2501), i(2500, "<br>a")+"a", 1)
	becomes(t, slices.Repeat([]api.Node{in("b", a)}, 2501), i(2500, "<b>a</b>"), 1)
}

// model settles a tree by the chapter's words.
func model(p api.Policy, files []api.Attached, l []api.Node) (string, int) {
	t := wash.Clean(p, files, l)
	for round := 0; round < 4; round++ {
		s := ser.Write(t)
		if isSettled(p, files, s) {
			return s, round
		}
		t = wash.Clean(p, files, tree.Build(s))
	}
	return settle.Notice(ser.Text(t)), 4
}

// grower makes trees and documents of all sorts.
type grower struct {
	*rand.Rand
}

func (g grower) one(row ...string) string { return row[g.Intn(len(row))] }

func (g grower) name() string {
	return g.one("a", "b", "blockquote", "br", "dd", "div", "div", "dl", "dt", "em", "h1", "h2", "hr", "i", "img", "li", "li", "ol", "p", "p", "pre", "span", "u", "ul", "table", "tr", "td", "font", "center", "button", "script", "marquee", "form", "x")
}

func (g grower) attrs() []string {
	var row []string
	for range g.Intn(6) - 3 {
		row = append(row, g.one("href", "http://h", "href", "javascript:x", "src", "cid:x", "src", "cid:y", "src", "https://h", "src", "att:2", "src", "x", "alt", "<&\xff\"", "style", "color: red", "style", "COLOR:red", "title", "a\u00a0", "onclick", "x", "width", "1", "rel", "x", "start", "3"), g.one("http://h", "x", "att:0", "https://h", "color: blue", "ltr", "2", ""))
	}
	return row
}

// tree makes nodes that lie at most so deep.
func (g grower) tree(most int) []api.Node {
	var out []api.Node
	for range g.Intn(4) {
		switch {
		case most == 0, g.Intn(4) == 0:
			out = append(out, text(g.one("", "a", "b", " ", "<", "&amp;", "\xff", "\u00a0", "\r\n")))
		default:
			out = append(out, with(in(g.name(), g.tree(most-1)...), g.attrs()...))
		}
	}
	return out
}

// document makes a text of tags and signs.
func (g grower) document(size int) string {
	var out strings.Builder
	for range g.Intn(size + 1) {
		switch g.Intn(8) {
		case 0:
			out.WriteString(g.one("a", "&lt;", "&", "<", "\xff", "&nbsp;", "\u00e9", ">", "<!--", "-->", "&#13;", "\"", "</", "<b", "\n"))
		case 1, 2:
			out.WriteString("</" + g.name() + ">")
		case 3:
			out.WriteString("<" + g.name())
			for i, s := range g.attrs() {
				out.WriteString([2]string{" ", "="}[i%2] + s)
			}
			out.WriteString(">")
		default:
			out.WriteString("<" + g.name() + ">")
		}
	}
	return out.String()
}

func (g grower) policy() (api.Policy, []api.Attached) {
	return api.Policy{Remote: g.Intn(2) > 0, Styles: g.Intn(2) > 0, Quotes: g.Intn(2) > 0}, came[:g.Intn(len(came)+1)]
}

// holdAll tells whether all that the chapter says of a tree is so, and behind how many rounds it is settled.
func holdAll(t *testing.T, p api.Policy, files []api.Attached, l []api.Node) int {
	t.Helper()
	s, n := settle.Settle(p, files, l)
	if want, rounds := model(p, files, l); s != want || n != rounds {
		t.Fatalf("P23.3: Settle(%v, %s) is %q, %d, not %q, %d", p, shown(l), s, n, want, rounds)
	}
	if !settle.Settled(p, files, s) || !isSettled(p, files, s) || !ser.Stable(tree.Build(s)) || !utf8.ValidString(s) {
		t.Fatalf("P23.4: of %v, %s: %q is not settled", p, shown(l), s)
	}
	if u, n := settle.Settle(p, files, tree.Build(s)); u != s || n != 0 {
		t.Fatalf("P23.4: of %v: %q, settled again, is %q, %d", p, s, u, n)
	}
	return n
}

func TestMixed(t *testing.T) { // P23.3, P23.4
	g := grower{rand.New(rand.NewSource(232))}
	var counts [5]int
	for n := range 15000 {
		p, files := g.policy()
		counts[holdAll(t, p, files, g.tree(n%7))]++
		counts[holdAll(t, p, files, tree.Build(g.document(n%60)))]++
		if n%10 == 0 {
			// these lie as deep as a document's tree can, or deeper
			row := times(22+g.Intn(9), "i")
			for range g.Intn(12) {
				row = append(row, g.one("div", "b", "u", "ul", "blockquote", "font"))
			}
			counts[holdAll(t, p, files, nest(row, g.tree(3)...))]++
		}
	}
	if slices.Min(counts[:]) < 20 {
		t.Errorf("P23.3: rounds %v", counts)
	}
}

func TestMixedDocuments(t *testing.T) { // P23.1
	g := grower{rand.New(rand.NewSource(233))}
	counts := map[bool]int{}
	for n := range 15000 {
		p, files := g.policy()
		s := g.document(n % 4)
		settledOne, _ := settle.Settle(p, files, tree.Build(g.document(n%20)))
		q, others := g.policy()
		at := g.Intn(len(settledOne) + 1)
		for _, s := range []string{s, settledOne, settledOne[:at], settledOne[at:], settledOne[:at] + s + settledOne[at:]} {
			want := isSettled(q, others, s)
			counts[want]++
			settled(t, q, others, s, want)
		}
		if t.Failed() {
			return
		}
	}
	if counts[true] < 3000 || counts[false] < 3000 {
		t.Errorf("P23.1: only %d are settled, %d not", counts[true], counts[false])
	}
}

func TestVeryDeepOnes(t *testing.T) { // R1
	// With so little room for calls, one for each level would end the program.
	defer debug.SetMaxStack(debug.SetMaxStack(1 << 21))
	// Of the div, and of what is in them, no more nodes are read than there may be.
	for name, want := range map[string]string{"div": "", "font": "x", "a": "<a>x</a>", "script": "", "br": "<br>"} {
		l := nest(times(100000, name), text("x"))
		rounds := 0
		if name == "div" {
			rounds = 4
		}
		// No tree is shown here: that itself would go too deep.
		if s, n := settle.Settle(all, came, l); s != want || n != rounds {
			t.Errorf("P23.3: of very many %s: %.300q, %d, not %q, %d", name, s, n, want, rounds)
		}
	}
	if s, n := settle.Settle(all, came, nest(slices.Repeat([]string{"b", "a", "table"}, 40000), text("x"))); s != "" || n != 4 {
		t.Errorf("P23.3: of a very deep one: %.300q, %d", s, n)
	}
}

func TestLongOnesEnd(t *testing.T) { // R1
	const size = 1 << 17
	for _, one := range []string{"a", "<b>", "<p>x", "</p>", "<", "&", "\xff", "<br>", "<img src=x>", "<ul><li>", "<!--", "\"", "<a href=http://h>x"} {
		s := strings.Repeat(one, size)
		settled(t, all, came, s, one == "a" || one == "\"")
		u, _ := settle.Settle(all, came, tree.Build(s))
		settled(t, all, came, u, true)
		if u := settle.Notice(s); u != settle.Notice(one)+settle.Notice(s[len(one):]) {
			t.Errorf("P23.2: many of %q", one)
		}
	}
	for _, node := range []api.Node{text("a"), in("b", text("x")), in("p", in("p")), in("script"), with(in("img"), "src", "x")} {
		s, n := settle.Settle(all, came, slices.Repeat([]api.Node{node}, size))
		settled(t, all, came, s, n < 4)
	}
}

// roomy is a tree whose lists have room behind them, in which something stands.
func roomy(l []api.Node) []api.Node {
	out := []api.Node{}
	for _, n := range l {
		n.Attrs = append(slices.Clone(n.Attrs), api.Attr{Name: "spare"})[:len(n.Attrs)]
		n.Kids = roomy(n.Kids)
		out = append(out, n)
	}
	return append(out, text("spare"))[:len(out)]
}

// roomStays tells whether it still stands there.
func roomStays(l []api.Node) bool {
	for _, n := range l {
		if !roomStays(n.Kids) || n.Attrs[:len(n.Attrs)+1][len(n.Attrs)].Name != "spare" {
			return false
		}
	}
	return l[:len(l)+1][len(l)].Text == "spare"
}

func TestWhatIsHandedInStays(t *testing.T) { // R5, R6
	g := grower{rand.New(rand.NewSource(234))}
	for n := range 3000 {
		p, files := g.policy()
		files = append(slices.Clone(files), api.Attached{Kind: "image/spare"})
		kept, before := slices.Clone(files), files[:len(files)-1:len(files)]
		l := roomy(g.tree(n % 7))
		was := shown(l)
		s, rounds := settle.Settle(p, before, l)
		settle.Settled(p, before, s)
		if u, again := settle.Settle(p, before, l); u != s || again != rounds {
			t.Fatalf("R6: %s is settled to %q, %d, and to %q, %d", was, s, rounds, u, again)
		}
		if shown(l) != was || !roomStays(l) || !reflect.DeepEqual(files, kept) {
			t.Fatalf("R5: %s, not %s", shown(l), was)
		}
	}
}

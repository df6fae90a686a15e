package tree_test

import (
	"math/rand"
	"reflect"
	"runtime/debug"
	"slices"
	"strconv"
	"strings"
	"testing"

	"muslin/api"
	"muslin/htok"
	"muslin/tree"
)

// voids, blocks and walls have the document's lists.
func voids() []string {
	return []string{"area", "base", "br", "col", "embed", "hr", "img", "input", "link", "meta", "source", "track", "wbr"}
}

func blocks() []string {
	return strings.Fields("address article aside blockquote center details div dl fieldset figure footer form h1 h2 h3 h4 h5 h6 header hr li main nav ol p pre section table ul dd dt")
}

func walls() []string {
	return []string{"table", "button", "ul", "ol", "dl", "svg", "math", "template", "object", "applet", "marquee"}
}

// others are names that are in none of these, or in no other list than walls and voids.
func others() []string {
	return []string{"b", "i", "span", "a", "option", "tr", "td", "th", "nobr", "select", "tbody", "thead", "caption", "font", "x", "h0", "h7", "h", "h11", "body", "html", "img2", "menu", "script", "style", "hgroup", "dir", "search", "colgroup", "optgroup", "frame", "param"}
}

// all are all of these names.
func all() []string {
	row := slices.Concat(voids(), blocks(), walls(), others())
	slices.Sort(row)
	return slices.Compact(row)
}

// closed is what each begin closes, as the document says it.
func closed() map[string][]string {
	headings := []string{"h1", "h2", "h3", "h4", "h5", "h6"}
	m := map[string][]string{}
	for _, name := range blocks() {
		m[name] = []string{"p"}
	}
	m["li"] = []string{"p", "li"}
	m["dd"] = []string{"p", "dd", "dt"}
	m["dt"] = []string{"p", "dd", "dt"}
	for _, name := range headings {
		m[name] = append([]string{"p"}, headings...)
	}
	m["tr"] = []string{"tr", "td", "th"}
	m["td"] = []string{"td", "th"}
	m["th"] = []string{"td", "th"}
	for _, name := range []string{"a", "option", "nobr", "button"} {
		m[name] = []string{name}
	}
	return m
}

// spoilt are names that are nearly this one.
func spoilt(name string) []string {
	return []string{strings.ToUpper(name), strings.ToUpper(name[:1]) + name[1:], name + " ", " " + name, name + "\x00", name + name, "<" + name + ">", name + " p"}
}

func TestVoid(t *testing.T) { // P14.1
	for _, name := range all() {
		if want := slices.Contains(voids(), name); tree.Void(name) != want {
			t.Errorf("P14.1: Void(%q) is not %v", name, want)
		}
		for _, other := range spoilt(name) {
			if tree.Void(other) {
				t.Errorf("P14.1: Void(%q)", other)
			}
		}
	}
	for _, name := range []string{"", " ", "br hr", "br,hr", "b", "ba", "im", "im\u0261", "\xff", "param", "keygen", "command", "frame", "basefont", "image"} {
		if tree.Void(name) {
			t.Errorf("P14.1: Void(%q)", name)
		}
	}
}

func TestCloses(t *testing.T) { // P14.1
	table := closed()
	for _, name := range append(all(), "") {
		for _, open := range append(all(), "") {
			if want := slices.Contains(table[name], open); tree.Closes(name, open) != want {
				t.Errorf("P14.1: Closes(%q, %q) is not %v", name, open, want)
			}
		}
		for _, open := range table[name] {
			for _, other := range spoilt(name) {
				if tree.Closes(other, open) {
					t.Errorf("P14.1: Closes(%q, %q)", other, open)
				}
			}
			for _, other := range spoilt(open) {
				if tree.Closes(name, other) {
					t.Errorf("P14.1: Closes(%q, %q)", name, other)
				}
			}
		}
	}
}

// shown is a tree in short: names with their attributes, and what is in them in brackets; texts quoted.
func shown(l []api.Node) string {
	var row []string
	for _, n := range l {
		s := n.Name
		for _, a := range n.Attrs {
			s += " " + a.Name + "=" + strconv.Quote(a.Value)
		}
		if n.Text != "" || n.Name == "" {
			s += strconv.Quote(n.Text)
		}
		if n.Name != "" || len(n.Kids) > 0 {
			s += "[" + shown(n.Kids) + "]"
		}
		row = append(row, s)
	}
	return strings.Join(row, " ")
}

func holdBuild(t *testing.T, s, want string) {
	t.Helper()
	if u := shown(tree.Build(s)); u != want {
		t.Errorf("P14.2: Build(%q) is %s, not %s", s, u, want)
	}
}

func TestBuildTexts(t *testing.T) { // P14.2
	for s, want := range map[string]string{
		"": ``, "a": `"a"`, "&lt;b&gt;&amp;amp;": `"<b>&amp;"`, "a<!--c-->b": `"ab"`, "a<?c>b<!d>c": `"abc"`, "<!---->": ``, "</b>": ``, "</b>a</i>b</p>": `"ab"`, "a</>b": `"ab"`, "&am<!---->p;": `"&amp;"`, " ": `" "`, "\xff\x00": `"\xff\x00"`, "<": `"<"`,
		"<b>a</i>b<!--c-->c</b>d</b>e": `b["abc"] "de"`, "a<b></b>b": `"a" b[] "b"`, "a<br>b": `"a" br[] "b"`, "a<b>b</b>c": `"a" b["b"] "c"`, "<b>a<i></i></b>b": `b["a" i[]] "b"`, "a<b": `"a"`, "<b>a<i": `b["a"]`,
		"<script>a<b>&amp;</script>c": `script["a<b>&amp;"] "c"`, "<title></title>": `title[]`, "<textarea>a</TEXTAREA >": `textarea["a"]`, "<b><plaintext></b>": `b[plaintext["</b>"]]`, "<xmp>a<p></xmp><p>": `xmp["a<p>"] p[]`,
		"<A B=C d='&quot;' b=e>f</A>": `a b="C" d="\""["f"]`, "<br a=b>": `br a="b"[]`, "<b/>a": `b["a"]`, "<b a=b><b a=c>": `b a="b"[b a="c"[]]`, "<x-y>a</X-Y>b": `x-y["a"] "b"`,
	} {
		holdBuild(t, s, want)
	}
}

func TestBuildEnds(t *testing.T) { // P14.2
	for s, want := range map[string]string{
		"<b><i>x</b>y</i>z": `b[i["x"]] "yz"`, "<b><b>x</b>y</b>z": `b[b["x"] "y"] "z"`, "<b>x</b></b>y": `b["x"] "y"`, "<b><i><u>x</i>y": `b[i[u["x"]] "y"]`, "<b><i><u>x</u></i></b>": `b[i[u["x"]]]`, "<i><b><i>x</i>y</i>z": `i[b[i["x"] "y"]] "z"`,
		"x</br>y</hr>z": `"xyz"`, "<br>x</br>y": `br[] "xy"`, "<p>x</p></p>y": `p["x"] "y"`,
		// an end goes through no wall, but a wall's own end does away with it
		"<b><ul>x</b>y</ul>z</b>": `b[ul["xy"] "z"]`, "<b><ul><i>x</b>y</i>z": `b[ul[i["xy"] "z"]]`, "<b><ul></ul>x</b>y": `b[ul[] "x"] "y"`, "<ul><b>x</ul>y": `ul[b["x"]] "y"`, "<ul><ul>x</ul>y</ul>z": `ul[ul["x"] "y"] "z"`, "<ul><ol>x</ul>y</ol>z</ul>w": `ul[ol["xy"] "z"] "w"`, "<table><tr><td><b>x</table>y": `table[tr[td[b["x"]]]] "y"`, "<table><tr><td><table>x</td></tr></table>y": `table[tr[td[table["x"] "y"]]]`,
	} {
		holdBuild(t, s, want)
	}
	for _, name := range all() {
		if slices.Contains(voids(), name) || htok.Raw(name) || name == "b" || name == "i" {
			continue
		}
		holdBuild(t, "<b><"+name+"><i>x</i></q></"+name+">y", `b[`+name+`[i["x"]] "y"]`)
		holdBuild(t, "<b><"+name+"><i>x</"+strings.ToUpper(name)+"\n>y", `b[`+name+`[i["x"]] "y"]`)
		want := `b[` + name + `[i["x"]]] "y"`
		if slices.Contains(walls(), name) {
			want = `b[` + name + `[i["x"] "y"]]`
		}
		holdBuild(t, "<b><"+name+"><i>x</i></b>y", want)
	}
}

func TestBuildBegins(t *testing.T) { // P14.2
	for s, want := range map[string]string{
		"<p>a<p>b": `p["a"] p["b"]`, "<p/>x": `p["x"]`, "<p>a<hr>b": `p["a"] hr[] "b"`, "<p>a<br>b": `p["a" br[] "b"]`, "<p><b>a<div>c</p>d": `p[b["a"]] div["cd"]`, "<p><b>a<p>b": `p[b["a"]] p["b"]`, "<div>a<div>b": `div["a" div["b"]]`, "<p>a<span>b": `p["a" span["b"]]`, "<p>a<table>b": `p["a"] table["b"]`,
		"<ul><li>a<li>b<ul><li>c</ul><li>d</ul>e": `ul[li["a"] li["b" ul[li["c"]]] li["d"]] "e"`, "<li>a<ul></li>b": `li["a" ul["b"]]`, "<li><p>a<li>b": `li[p["a"]] li["b"]`, "<li><div>a<li>b": `li[div["a"]] li["b"]`, "<li><ol>a<li>b": `li[ol["a" li["b"]]]`,
		"<dl><dt>a<dd>b<dt>c": `dl[dt["a"] dd["b"] dt["c"]]`, "<dd><p>a<dt>b": `dd[p["a"]] dt["b"]`, "<p><dd>a": `p[] dd["a"]`, "<dd><dl><dd>a<dd>b": `dd[dl[dd["a"] dd["b"]]]`,
		"<h1>a<h2>b</h1>c": `h1["a"] h2["bc"]`, "<h1><b>a<h6>b": `h1[b["a"]] h6["b"]`, "<h3><p>a<h3>b": `h3[p["a"]] h3["b"]`,
		"<a x=y>b<a>c": `a x="y"["b"] a["c"]`, "<a><b>c<a>d</b>e": `a[b["c"]] a["de"]`, "<a><table><tr><td><a>b": `a[table[tr[td[a["b"]]]]]`, "<nobr>a<nobr>b": `nobr["a"] nobr["b"]`, "<select><option>a<option>b</select>c": `select[option["a"] option["b"]] "c"`,
		"<table><tr><td>a<td>b<tr><td>c</table>d": `table[tr[td["a"] td["b"]] tr[td["c"]]] "d"`, "<table><tr><th>a<td>b<th>c<tr>d": `table[tr[th["a"] td["b"] th["c"]] tr["d"]]`, "<tr><td><b>a<tr>b": `tr[td[b["a"]]] tr["b"]`, "<td><tr>a<td>b": `td[] tr["a" td["b"]]`, "<tr><td><table><tr><td>a<tr>b</table>c<tr>d": `tr[td[table[tr[td["a"]] tr["b"]] "c"]] tr["d"]`,
		// what a wall stands inside of stays open, but of a wall that the begin closes
		"<p><table><tr><td><p>x<div>y": `p[] table[tr[td[p["x"] div["y"]]]]`, "<p><button><p>x": `p[button[p["x"]]]`, "<p><svg><div>x": `p[svg[div["x"]]]`, "<button>a<button>b": `button["a"] button["b"]`, "<button><b>a<button>b": `button[b["a"]] button["b"]`, "<button><ul><button>a<button>b": `button[ul[button["a"] button["b"]]]`, "<a><button>x<a>y": `a[button["x" a["y"]]]`, "<a><button>x<button>y<a>z": `a[button["x"] button["y" a["z"]]]`, "<p><object></object>a<p>b": `p[object[] "a"] p["b"]`, "<p><button><p>a<button>b": `p[button[p["a"]] button["b"]]`,
		// all that a begin closes, as long as there is such a one
		"<dd><p>a<dd>b": `dd[p["a"]] dd["b"]`, "<tr><td><tr>": `tr[td[]] tr[]`, "<p><i><li>a": `p[i[]] li["a"]`, "<li><i><p><b>a<li>b": `li[i[p[b["a"]]]] li["b"]`, "<p><a><p>": `p[a[]] p[]`,
	} {
		holdBuild(t, s, want)
	}
}

// item is an element or a text of a tree that is made by the chapter's words.
type item struct {
	name, text string
	attrs      []api.Attr
	kids       []*item
}

// maker makes a tree by the chapter's words, step by step.
type maker struct {
	closed map[string][]string
	open   []*item
	count  int
}

func (m *maker) inner() *item { return m.open[len(m.open)-1] }

func (m *maker) add(one *item) bool {
	if m.count >= 5000 {
		return false
	}
	m.count++
	in := m.inner()
	in.kids = append(in.kids, one)
	return true
}

func (m *maker) chars(s string) {
	if in := m.inner(); len(in.kids) > 0 && in.kids[len(in.kids)-1].name == "" {
		in.kids[len(in.kids)-1].text += s
		return
	}
	m.add(&item{text: s})
}

// close closes the innermost one of these, if no wall is inside of it that is none of them.
func (m *maker) close(names ...string) bool {
	at := 0
	for i := 1; i < len(m.open); i++ {
		if slices.Contains(names, m.open[i].name) {
			at = i
		}
	}
	if at == 0 {
		return false
	}
	for _, one := range m.open[at+1:] {
		if slices.Contains(walls(), one.name) && !slices.Contains(names, one.name) {
			return false
		}
	}
	m.open = m.open[:at]
	return true
}

func (m *maker) start(name string, attrs []api.Attr) {
	for m.close(m.closed[name]...) {
	}
	one := &item{name: name, attrs: attrs}
	if m.add(one) && !slices.Contains(voids(), name) && len(m.open) < 31 {
		m.open = append(m.open, one)
	}
}

func nodesOf(l []*item) []api.Node {
	var out []api.Node
	for _, one := range l {
		out = append(out, api.Node{Name: one.name, Attrs: one.attrs, Text: one.text, Kids: nodesOf(one.kids)})
	}
	return out
}

// byWords is the tree of a document, as P14.2 says it.
func byWords(s string) []api.Node {
	m := maker{closed: closed(), open: []*item{{}}}
	for _, token := range htok.Scan(s) {
		switch token.Kind {
		case api.Chars:
			m.chars(token.Text)
		case api.Start:
			m.start(token.Name, token.Attrs)
		case api.End:
			m.close(token.Name)
		}
	}
	return nodesOf(m.open[0].kids)
}

// count and depth are those of a tree, by calls of themselves.
func count(l []api.Node) int {
	n := len(l)
	for _, node := range l {
		n += count(node.Kids)
	}
	return n
}

func depth(l []api.Node) int {
	deepest := -1
	for _, node := range l {
		deepest = max(deepest, depth(node.Kids))
	}
	return deepest + 1
}

// holdSound tells whether a tree is one as P14.4 says it, with nothing in any field that should have none.
func holdSound(t *testing.T, s string, l []api.Node) {
	t.Helper()
	if count(l) > 5000 || depth(l) > 31 {
		t.Fatalf("P14.4: %.200q: %d nodes, %d deep", s, count(l), depth(l))
	}
	var look func(l []api.Node)
	look = func(l []api.Node) {
		for i, node := range l {
			isText := node.Name == ""
			if isText && (node.Text == "" || len(node.Attrs) > 0 || len(node.Kids) > 0) || !isText && node.Text != "" {
				t.Fatalf("P14.4, R4: %.200q: %.200s", s, shown(l[i:i+1]))
			}
			if isText && i > 0 && l[i-1].Name == "" {
				t.Fatalf("P14.4: %.200q: one text behind another: %.200s", s, shown(l[i-1:i+1]))
			}
			if slices.Contains(voids(), node.Name) && len(node.Kids) > 0 {
				t.Fatalf("P14.4: %.200q: in a void one: %.200s", s, shown(l[i:i+1]))
			}
			look(node.Kids)
		}
	}
	look(l)
}

// holdByWords holds a document's tree against that by the words.
func holdByWords(t *testing.T, s string) {
	t.Helper()
	l := tree.Build(s)
	if u, want := shown(l), shown(byWords(s)); u != want {
		t.Fatalf("P14.2: Build(%.300q) is %.300s, not %.300s", s, u, want)
	}
	holdSound(t, s, l)
	if tree.Count(l) != count(l) || tree.Depth(l) != depth(l) {
		t.Fatalf("P14.3: %.300q: %d, %d, not %d, %d", s, tree.Count(l), tree.Depth(l), count(l), depth(l))
	}
}

func TestBuildPairs(t *testing.T) { // P14.1, P14.2
	for _, outer := range all() {
		for _, inner := range all() {
			if htok.Raw(outer) || htok.Raw(inner) {
				continue
			}
			holdByWords(t, "a<"+outer+">b<"+inner+">c</"+outer+">d</"+inner+">e")
			holdByWords(t, "<"+outer+"><"+inner+"><"+outer+">c</"+inner+">d<"+inner+">e</"+outer+">")
			for _, wall := range walls() {
				holdByWords(t, "<"+outer+"><b><"+wall+"><i><"+inner+">a</"+wall+">b</i>c</"+outer+">d")
			}
		}
	}
}

func TestBuildMixed(t *testing.T) { // P14.2, P14.4
	random := rand.New(rand.NewSource(142))
	rows := [][]string{
		all(), {"p", "b", "ul", "li", "div"}, {"table", "tr", "td", "th", "p"}, {"a", "button", "b", "object"}, {"dl", "dt", "dd", "p", "i"}, {"h1", "h2", "p", "b", "svg"}, {"nobr", "option", "a", "hr", "br", "img"}, {"b", "i", "u"},
	}
	for n := range 40000 {
		row := rows[n%len(rows)]
		var s strings.Builder
		for range random.Intn(12 + n%60) {
			name := row[random.Intn(len(row))]
			switch random.Intn(8) {
			case 0, 1, 2:
				s.WriteString("<" + name + ">")
			case 3:
				s.WriteString("<" + strings.ToUpper(name) + " a=b c>")
			case 4, 5:
				s.WriteString("</" + name + ">")
			case 6:
				s.WriteString([]string{"x", "&amp;", " ", "&lt;"}[random.Intn(4)])
			case 7:
				s.WriteString([]string{"<!--c-->", "</>", "<?d>", "<script>e<b></script>"}[random.Intn(4)])
			}
		}
		holdByWords(t, s.String())
	}
}

func TestBuildDeepOnes(t *testing.T) { // P14.2, P14.4
	for levels := range 45 {
		open := strings.Repeat("<b>", levels)
		close := strings.Repeat("</b>", levels)
		for _, s := range []string{open, open + "x", open + "x" + close, open + "x" + close + "y", open + "<i>x</i>y", open + "<br>x", open + "x<i>y<u>z", open + "<i></b>x", open + "<p>x<p>y", open + "<script>x</script>y", strings.Repeat("<p><b>", levels) + "x", strings.Repeat("<ul><li>", levels) + "x<li>y</ul>z", "<ul>" + open + "x</ul>y"} {
			holdByWords(t, s)
		}
		l := tree.Build(open + "x")
		if d := min(levels, 30) + 1; tree.Depth(l) != d || tree.Count(l) != levels+1 {
			t.Errorf("P14.2: %d open ones: %d, %d", levels, tree.Depth(l), tree.Count(l))
		}
	}
	// with 30 open ones more of them are there, but nothing is in them, and nothing closes them
	open, ended := strings.Repeat("<b>", 29), strings.Repeat("]", 29)
	begun := strings.Repeat("b[", 29)
	holdBuild(t, open+"<i>x<i>y</i>z", begun+`i["x" i[] "y"] "z"`+ended)
	holdBuild(t, open+"<p>x<u>y<p>z", begun+`p["x" u[] "y"] p["z"]`+ended)
	holdBuild(t, open+"<i><u a=b>x</u>y</i>z", begun+`i[u a="b"[] "xy"] "z"`+ended)
	holdBuild(t, open+"<i><p><div>x<p>y", begun+`i[p[] div[] "x" p[] "y"]`+ended)
	holdBuild(t, open+"<i><script>x</script>y", begun+`i[script[] "xy"]`+ended)
	holdBuild(t, open+"<i><ul>x</i>y</ul>", begun+`i[ul[] "x"] "y"`+ended)
	holdBuild(t, open+"<i><hr>x", begun+`i[hr[] "x"]`+ended)
}

func TestBuildManyNodes(t *testing.T) { // P14.2, P14.4
	for most := 4995; most <= 5001; most++ {
		ahead := strings.Repeat("<br>", most)
		for _, s := range []string{"", "x", "x<!--c-->y", "x</b>y<b>z", "x<b>y", "x<br>y", "<b>x", "<b>x</b>y", "<b><i>x</i>y</b>z", "<p>x<p>y", "<p><b>x<div>y", "<p>x<div>y</div>z<p>w", "<li><br>x<li>y", "<b a=b>x<b c=d>y</b>z", "<ul><li>x</ul>y", "<script>x</script>y<script>z</script>", "<u>x</u></u>y", "<b>x<i></b>y", "<a>x<a>y<a>z</a>w"} {
			holdByWords(t, ahead+s)
			holdByWords(t, "<b><i>"+ahead+s+"</i>x</b>y")
			holdByWords(t, "x"+ahead+s)
		}
	}
	ahead := strings.Repeat("<br>", 4998)
	skipped := strings.Repeat("br[] ", 4998)
	for s, want := range map[string]string{
		"<p>x<p>y<b>z":          `p["x"]`,
		"<p>x<b>y</b>z":         `p["xyz"]`,
		"<p>x</p>y":             `p["x"]`,
		"x<b>y</b>z":            `"x" b[]`,
		"<b></b>x<i>y</b>z<hr>": `b[] "xyz"`,
		"x<hr>y":                `"x" hr[]`,
	} {
		holdBuild(t, ahead+s, skipped+want)
	}
	// an element that is not there is not open: its end is another one's
	holdBuild(t, "<u>"+ahead+"x<u>y</u>z", "u["+skipped+`"xy"]`)
	for _, s := range []string{"<b>x</b>", "<br>", "x<br>", "<p>x", "<ul><li>x", "<b>", "x<b>y</b>"} {
		many := strings.Repeat(s, 5001)
		holdByWords(t, many)
		holdByWords(t, many+"x")
	}
}

func TestCountAndDepth(t *testing.T) { // P14.3
	text := api.Node{Text: "x"}
	in := func(l ...api.Node) api.Node { return api.Node{Name: "b", Kids: l} }
	for i, c := range []struct {
		l            []api.Node
		count, depth int
	}{
		{nil, 0, 0}, {[]api.Node{}, 0, 0}, {[]api.Node{{}}, 1, 1}, {[]api.Node{text}, 1, 1}, {[]api.Node{text, text, text}, 3, 1}, {[]api.Node{in()}, 1, 1}, {[]api.Node{in(text)}, 2, 2}, {[]api.Node{{Kids: []api.Node{}}}, 1, 1},
		{[]api.Node{in(in(text), text), text}, 5, 3}, {[]api.Node{text, in(text, in(in(), in(in())), text), in(text)}, 10, 4}, {[]api.Node{in(in()), in(in(in())), in()}, 6, 3},
		// a text that has something in it, which no document has, counts likewise
		{[]api.Node{{Text: "x", Kids: []api.Node{text, in(text)}}}, 4, 3}, {[]api.Node{{Name: "br", Kids: []api.Node{text}}}, 2, 2},
	} {
		if tree.Count(c.l) != c.count || tree.Depth(c.l) != c.depth {
			t.Errorf("P14.3: case %d: %d, %d, not %d, %d", i, tree.Count(c.l), tree.Depth(c.l), c.count, c.depth)
		}
	}
	random := rand.New(rand.NewSource(143))
	var grow func(most int) []api.Node
	grow = func(most int) []api.Node {
		var l []api.Node
		for range random.Intn(most + 1) {
			l = append(l, api.Node{Name: "b", Kids: grow(most - 1)})
		}
		return l
	}
	for range 3000 {
		if l := grow(random.Intn(6)); tree.Count(l) != count(l) || tree.Depth(l) != depth(l) {
			t.Errorf("P14.3: %d, %d, not %d, %d", tree.Count(l), tree.Depth(l), count(l), depth(l))
		}
	}
}

func TestCountAndDepthOfVeryDeepOnes(t *testing.T) { // P14.3, R1
	const levels = 200000
	// With so little room for calls, one for each level would end the program.
	defer debug.SetMaxStack(debug.SetMaxStack(1 << 21))
	x := api.Node{Text: "x"}
	l := []api.Node{x}
	for range levels {
		l = []api.Node{x, {Name: "b", Kids: l}, x}
	}
	if tree.Count(l) != 3*levels+1 || tree.Depth(l) != levels+1 {
		t.Errorf("P14.3: %d, %d", tree.Count(l), tree.Depth(l))
	}
}

func TestAnswersAreOnesOwn(t *testing.T) { // R5, R6
	const s = "<p a=b c=d>x<b e=f>y</b><i></i>z<p>u<b g=h><br i=j></b>v"
	first, second := tree.Build(s), tree.Build(s)
	if !reflect.DeepEqual(first, second) || tree.Count(first) != 11 {
		t.Fatalf("R6: %s, then %s", shown(first), shown(second))
	}
	want := shown(second)
	var spoil func(l []api.Node)
	spoil = func(l []api.Node) {
		_ = append(l, api.Node{Text: "w"}, api.Node{Text: "w"}, api.Node{Text: "w"})
		for _, node := range l {
			_ = append(node.Attrs, api.Attr{Name: "w"}, api.Attr{Name: "w"})
			spoil(node.Kids)
		}
	}
	// what is put behind one list is in no other
	spoil(first)
	if u := shown(first); u != want {
		t.Errorf("R5: %s, not %s", u, want)
	}
	clear(first[0].Kids)
	clear(first[0].Attrs)
	tree.Count(second)
	tree.Depth(second)
	if shown(second) != want || shown(tree.Build(s)) != want {
		t.Errorf("R5: %s, then %s", shown(second), shown(tree.Build(s)))
	}
}

func TestLongTextsEnd(t *testing.T) { // R1, P14.4
	const size = 1 << 17
	for _, one := range []string{"<", "<b>", "</b>", "<b></b>", "<p>", "x</b>", "x<!---->", "<br>", "x<br>", "<ul><li>", "<button>", "<a>x", "<title>x</title>", "<b a=b c='d'>", "&amp;</>", "<table><tr><td>", "<p>x</ul>"} {
		l := tree.Build(strings.Repeat(one, size))
		holdSound(t, one, l)
		if tree.Count(l) != count(l) || tree.Depth(l) != depth(l) {
			t.Errorf("P14.3: many of %q: %d, %d", one, tree.Count(l), tree.Depth(l))
		}
	}
	if l := tree.Build(strings.Repeat("x</b>", size)); len(l) != 1 || l[0].Text != strings.Repeat("x", size) {
		t.Errorf("P14.2: one text in many pieces is %d nodes", len(l))
	}
}

package fold_test

import (
	"math/rand"
	"reflect"
	"runtime/debug"
	"slices"
	"strconv"
	"strings"
	"testing"

	"muslin/api"
	"muslin/fold"
	"muslin/plain"
	"muslin/ser"
	"muslin/tree"
)

func text(s string) api.Node { return api.Node{Text: s} }

func in(name string, kids ...api.Node) api.Node { return api.Node{Name: name, Kids: kids} }

func quote(kids ...api.Node) api.Node { return in("blockquote", kids...) }

func br() api.Node { return in("br") }

// with is an element that has attributes, of names and values by turns.
func with(node api.Node, row ...string) api.Node {
	node.Attrs = nil
	for i := 0; i < len(row); i += 2 {
		node.Attrs = append(node.Attrs, api.Attr{Name: row[i], Value: row[i+1]})
	}
	return node
}

// aside is a fold.
func aside(kids ...api.Node) api.Node { return with(in("div", kids...), "title", "quoted") }

// shown is a tree in short, with all that stands in any field.
func shown(l []api.Node) string {
	var row []string
	for _, n := range l {
		s := n.Name
		for _, a := range n.Attrs {
			s += " " + strconv.Quote(a.Name) + "=" + strconv.Quote(a.Value)
		}
		if n.Text != "" || n.Name == "" {
			s += strconv.Quote(n.Text)
		}
		if n.Name != "" || len(n.Kids) > 0 {
			s += "[" + shown(n.Kids) + "]"
		}
		row = append(row, s)
	}
	return strings.Join(row, " ")
}

// begins tells where the quotes at a tree's end begin, and what the tree is then.
func begins(t *testing.T, place int, l ...api.Node) {
	t.Helper()
	if at, is := fold.Where(l); at != place || !is {
		t.Errorf("P21.1: Where(%.300s) is %d, %v, not %d, true", shown(l), at, is, place)
	}
	want := append(slices.Clone(l[:place]), aside(l[place:]...))
	if u := fold.Fold(l); shown(u) != shown(want) {
		t.Errorf("P21.2: Fold(%.300s) is %.300s, not %.300s", shown(l), shown(u), shown(want))
	}
	if u := fold.Fold(want); shown(u) != shown(want) {
		t.Errorf("P21.4: Fold(%.300s) is %.300s", shown(want), shown(u))
	}
	opens(t, want, l...)
}

// lacks tells that no quotes are at a tree's end.
func lacks(t *testing.T, l ...api.Node) {
	t.Helper()
	if at, is := fold.Where(l); at != 0 || is {
		t.Errorf("P21.1: Where(%.300s) is %d, %v, not 0, false", shown(l), at, is)
	}
	if u := fold.Fold(l); shown(u) != shown(l) {
		t.Errorf("P21.2: Fold(%.300s) is %.300s", shown(l), shown(u))
	}
}

// opens tells what becomes of a tree that is opened.
func opens(t *testing.T, l []api.Node, want ...api.Node) {
	t.Helper()
	if u := fold.Open(l); shown(u) != shown(want) {
		t.Errorf("P21.3: Open(%.300s) is %.300s, not %.300s", shown(l), shown(u), shown(want))
	}
}

func TestWhere(t *testing.T) { // P21.1, P21.2
	a, q, o := text("a"), quote(text("q")), text(" ")
	lacks(t)
	lacks(t, []api.Node{}...)
	lacks(t, a)
	lacks(t, q)
	lacks(t, o)
	lacks(t, br())
	lacks(t, a, o)
	lacks(t, a, br(), o, br())
	lacks(t, in("p"), br())
	begins(t, 1, a, q)
	begins(t, 1, in("p"), quote())
	begins(t, 1, a, q, q, q)
	begins(t, 1, a, q, o, br(), q, br(), o)
	begins(t, 2, a, o, q)
	begins(t, 4, a, br(), o, br(), q, o)
	begins(t, 3, q, a, o, q, o)
	begins(t, 3, q, q, a, q, q)
	begins(t, 5, q, o, a, br(), br(), q)
	begins(t, 6, a, q, a, q, a, o, q)
	begins(t, 2, in("p", a), in("hr"), q, br())
	// nothing stands ahead of them but what is blank, or another quote
	lacks(t, q, q)
	lacks(t, o, q)
	lacks(t, br(), q, o)
	lacks(t, br(), o, br(), q, br(), q)
	lacks(t, text(""), q)
	lacks(t, q, o, q)
	// something stands behind them
	lacks(t, a, q, a)
	lacks(t, a, q, a, o)
	lacks(t, a, q, br(), a, br())
	lacks(t, a, q, in("p"))
	lacks(t, a, q, in("hr"), br())
	lacks(t, a, q, in("div", q))
	lacks(t, a, in("div", a, q))
	lacks(t, a, aside(q))
	lacks(t, a, q, aside(q))
	// a fold is no quote; but what stands behind it can be put aside
	begins(t, 2, a, aside(q), q)
	begins(t, 1, aside(q), q)
	// a very long row, and a very long way to it
	row := slices.Repeat([]api.Node{br(), q, o}, 3000)
	lacks(t, row...)
	begins(t, 2, append([]api.Node{a}, row...)...)
	begins(t, 9001, append(slices.Clone(row), append([]api.Node{a}, q)...)...)
	lacks(t, append(slices.Clone(row), a)...)
}

// blank tells whether nothing is to be seen of a node.
func blank(t *testing.T, node api.Node, want bool) {
	t.Helper()
	if want {
		lacks(t, node, quote())
		begins(t, 2, text("a"), node, quote(), node)
		begins(t, 4, text("a"), node, br(), node, quote(), br(), node)
	} else {
		begins(t, 1, node, quote())
		begins(t, 2, br(), node, quote(), text(""))
		lacks(t, text("a"), quote(), node)
		lacks(t, text("a"), quote(), node, br())
	}
}

func TestBlankTexts(t *testing.T) { // P21.1
	for _, s := range []string{"", " ", "\t", "\n", "\r", "\u00a0", "\xc2\xa0", "  ", "\r\n", " \t\r\n\u00a0", "\u00a0 \u00a0", "\n\n\n\n", "\u00a0\u00a0", strings.Repeat(" \u00a0\t", 50000)} {
		blank(t, text(s), true)
		blank(t, text(s+"a"), false)
		blank(t, text("a"+s), false)
		blank(t, text(s+"a"+s), false)
		blank(t, text(s+"\xff"+s), false)
		blank(t, text(s+"\xc2"), false)
	}
	// a half of U+00A0 is not it, nor is another sign that shows nothing
	for _, s := range []string{"\v", "\f", "\x00", "\b", "\x1b", "\x7f", "\u0085", "\u00ad", "\u200b", "\u2002", "\u2028", "\u2029", "\u202f", "\u3000", "\ufeff", "\ufffd", "\xa0", "\xc2", "\xa0\xc2", "\xc2 \xa0", "\x85", "\xff", "\xc2\xa1", "\xe2\xa0", "\xc3\xa0", "\xc2\xa0\xa0", "\xc2\xc2\xa0", "&nbsp;", "&#32;", "<br>", ">", "-", "_", "."} {
		blank(t, text(s), false)
		blank(t, text(" "+s+"\n"), false)
	}
	for c := range 256 {
		blank(t, text(string([]byte{byte(c)})), strings.IndexByte(" \t\n\r", byte(c)) >= 0)
		blank(t, text(string(rune(c))), strings.ContainsRune(" \t\n\r\u00a0", rune(c)))
	}
}

func TestNames(t *testing.T) { // P21.1
	for _, name := range strings.Fields("BR bR Br b hr wbr br/ brx p div span i img script style title Blockquote BLOCKQUOTE blockquotes block quote q cite pre ul") {
		for _, node := range []api.Node{in(name), in(name, br()), in(name, quote()), with(in(name), "title", "quoted")} {
			blank(t, node, false)
		}
	}
	for _, name := range []string{" ", "\n", "\u00a0", "br ", " br", "\tbr", "blockquote ", "\x00", "\xff"} {
		blank(t, in(name), false)
	}
	// whatever stands in a br or in a quote, and whatever they are told
	for _, node := range []api.Node{in("br", text("x")), in("br", quote(text("x"))), with(br(), "title", "x"), {Name: "br", Text: "x"}} {
		blank(t, node, true)
	}
	for _, node := range []api.Node{quote(), quote(quote(text("x"))), quote(br()), quote(text(" ")), with(quote(in("p")), "cite", "x", "type", "cite"), {Name: "blockquote", Text: "x"}} {
		begins(t, 1, text("a"), node)
		begins(t, 2, text("a"), br(), node, br(), node, text(""))
		lacks(t, node)
		lacks(t, br(), node, quote(), node)
	}
	// what no document gives a text counts for nothing
	odd := with(in("", in("p"), text("x")), "title", "quoted")
	blank(t, odd, true)
	odd.Text = "\r\n"
	blank(t, odd, true)
	odd.Text = "y"
	blank(t, odd, false)
}

func TestFold(t *testing.T) { // P21.2
	// all nodes stay as they are, also what no document has
	odd := with(api.Node{Name: "p", Text: "t", Kids: []api.Node{with(text("\xff"), "", "x"), in("br", text("y"))}}, "A", "b", "A", "c")
	cited := with(quote(odd, text("")), "cite", "x")
	begins(t, 2, odd, odd, cited, with(br(), "id", "z"), cited, with(text(" "), "d", "e"))
	lacks(t, odd, odd, cited, odd)
	for s, want := range map[string]string{
		"":                            "",
		"a<blockquote>b</blockquote>": `a<div title="quoted"><blockquote>b</blockquote></div>`,
		"<blockquote>b</blockquote>":  "<blockquote>b</blockquote>",
		"a <b>b</b><br><br>\n<blockquote type=cite>c<br>d<blockquote>e</blockquote></blockquote>\r\n&nbsp;": `a <b>b</b><br><br>` + "\n" + `<div title="quoted"><blockquote type="cite">c<br>d<blockquote>e</blockquote></blockquote>` + "\r\n&nbsp;</div>",
		"<p>a<blockquote>b</blockquote><p>c<blockquote>d</blockquote>":                                      `<p>a</p><blockquote>b</blockquote><p>c</p><div title="quoted"><blockquote>d</blockquote></div>`,
		"<div>a<blockquote>b</blockquote></div>":                                                            "<div>a<blockquote>b</blockquote></div>",
	} {
		if u := ser.Write(fold.Fold(tree.Build(s))); u != want {
			t.Errorf("P21.2: %q is %q then, not %q", s, u, want)
		}
	}
	for s, want := range map[string]string{
		"a\n\n> b\n> c\n": `a<br><div title="quoted"><blockquote>b<br>c</blockquote></div>`,
		"> b\na":          "<blockquote>b</blockquote>a",
		"a\n> b\n\n>> c":  `a<div title="quoted"><blockquote>b</blockquote><blockquote><blockquote>c</blockquote></blockquote></div>`,
	} {
		if u := ser.Write(fold.Fold(plain.Tree(s))); u != want {
			t.Errorf("P21.2: %q is %q then, not %q", s, u, want)
		}
	}
}

func TestOpen(t *testing.T) { // P21.3
	a, q := text("a"), quote(text("q"))
	for _, kids := range [][]api.Node{nil, {}, {a}, {q}, {text(" "), q, br()}, {in("p", q), a, q}, {with(text("x"), "y", "z")}} {
		opens(t, []api.Node{aside(kids...)}, kids...)
		opens(t, []api.Node{a, aside(kids...)}, append([]api.Node{a}, kids...)...)
		opens(t, []api.Node{aside(a), aside(q), aside(kids...)}, append([]api.Node{aside(a), aside(q)}, kids...)...)
		// one fold is opened, not those in it
		opens(t, []api.Node{a, aside(a, aside(kids...))}, a, a, aside(kids...))
		odd := aside(kids...)
		odd.Text = "x"
		opens(t, []api.Node{q, odd}, append([]api.Node{q}, kids...)...)
		// one that is not the last node stays
		for _, last := range []api.Node{a, q, br(), text(""), text(" "), in("div", aside(kids...)), in("p")} {
			l := []api.Node{a, aside(kids...), last}
			opens(t, l, l...)
		}
	}
	opens(t, nil)
	opens(t, []api.Node{})
}

func TestWhatIsNoFold(t *testing.T) { // P21.3
	node := func(name string, row ...string) api.Node { return with(in(name, quote(text("q"))), row...) }
	for _, last := range []api.Node{
		node("div"), node("div", "title", ""), node("div", "title", "x"), node("div", "title", "Quoted"), node("div", "title", "quoted "), node("div", "title", " quoted"), node("div", "title", "quote"), node("div", "title", "\"quoted\""),
		node("div", "Title", "quoted"), node("div", "", "quoted"), node("div", "class", "quoted"), node("div", "quoted", "title"), node("div", "title ", "quoted"), node("div", "title=quoted", ""), node("div", "quoted", ""),
		node("div", "title", "quoted", "dir", "ltr"), node("div", "dir", "ltr", "title", "quoted"), node("div", "title", "quoted", "title", "quoted"), node("div", "title", "quoted", "", ""), node("div", "title", "x", "title", "quoted"),
		node("DIV", "title", "quoted"), node("Div", "title", "quoted"), node("", "title", "quoted"), node("blockquote", "title", "quoted"), node("p", "title", "quoted"), node("span", "title", "quoted"), node("div ", "title", "quoted"), node("br", "title", "quoted"),
		text("quoted"), text(`<div title="quoted"></div>`), quote(text("q")), in("p", aside(quote())),
	} {
		opens(t, []api.Node{last}, last)
		opens(t, []api.Node{text("a"), last}, text("a"), last)
		opens(t, []api.Node{aside(quote()), last}, aside(quote()), last)
	}
}

// modelWhere tells the place by the chapter's words.
func modelWhere(l []api.Node) (int, bool) {
	isBlank := func(n api.Node) bool {
		if n.Name != "" {
			return n.Name == "br"
		}
		for _, r := range n.Text {
			if r != ' ' && r != '\t' && r != '\n' && r != '\r' && r != 0xa0 {
				return false
			}
		}
		return true
	}
	row := len(l)
	for row > 0 && (isBlank(l[row-1]) || l[row-1].Name == "blockquote") {
		row--
	}
	place := row
	for place < len(l) && l[place].Name != "blockquote" {
		place++
	}
	if place == len(l) {
		return 0, false
	}
	for _, n := range l[:place] {
		if !isBlank(n) {
			return place, true
		}
	}
	return 0, false
}

// grower makes trees of all sorts.
type grower struct {
	random *rand.Rand
	nodes  []api.Node
}

func (g *grower) grow(most int) []api.Node {
	var l []api.Node
	for range g.random.Intn(max(most, 0) + 1) {
		node := g.nodes[g.random.Intn(len(g.nodes))]
		if len(node.Attrs) > 0 {
			// no two nodes of a tree share a list
			node.Attrs = slices.Clone(node.Attrs)
		}
		if node.Name != "" && node.Name != "br" || g.random.Intn(50) == 0 {
			node.Kids = g.grow(most - 2)
		}
		l = append(l, node)
	}
	return l
}

func growers(seed int64) []*grower {
	random := rand.New(rand.NewSource(seed))
	var l []*grower
	for _, nodes := range [][]api.Node{
		{text("a"), quote(), text(" "), br()}, {quote(), quote(), br(), text("\u00a0\n"), in("p")}, {quote(), text(""), text("\xa0"), text("\t"), br()}, {aside(), quote(), text("a")}, {aside(), aside(), br(), in("div"), text(" ")},
		{with(quote(), "cite", "x"), with(br(), "id", "y"), with(text(" "), "z", "z"), with(in("div"), "title", "x"), with(aside(), "title", "quoted", "a", "b")},
	} {
		l = append(l, &grower{random, nodes})
	}
	return l
}

func TestMixed(t *testing.T) { // P21.1, P21.2, P21.3, P21.4
	found, folds := 0, 0
	for n, row := 0, growers(211); n < 60000; n++ {
		l := row[n%len(row)].grow(1 + n%9)
		if place, is := modelWhere(l); is {
			begins(t, place, l...)
			found++
		} else {
			lacks(t, l...)
		}
		once := fold.Fold(l)
		if u := fold.Fold(once); shown(u) != shown(once) {
			t.Errorf("P21.4: Fold(%s) is %s", shown(once), shown(u))
		}
		want := l
		if last := len(l) - 1; last >= 0 && l[last].Name == "div" && slices.Equal(l[last].Attrs, aside().Attrs) {
			want = slices.Concat(l[:last], l[last].Kids)
			folds++
		}
		opens(t, l, want...)
		if t.Failed() {
			return
		}
	}
	if found < 3000 || folds < 3000 {
		t.Errorf("P21: only %d with quotes, %d with folds", found, folds)
	}
}

func TestWhatIsPutAsideIsPutBack(t *testing.T) { // P21.4
	for n, row := 0, growers(212); n < 20000; n++ {
		l := row[n%len(row)].grow(1 + n%9)
		once := fold.Fold(l)
		if _, is := fold.Where(l); is && shown(fold.Open(once)) != shown(l) {
			t.Fatalf("P21.4: of %s, %s is put back", shown(l), shown(fold.Open(once)))
		}
		if at, is := fold.Where(once); at != 0 || is {
			t.Fatalf("P21.4: of %s, something is put aside at %d", shown(once), at)
		}
	}
}

// deep is nodes within so many quotes and folds.
func deep(levels int) []api.Node {
	l := []api.Node{text("x"), with(br(), "a", "b")}
	for range levels {
		l = []api.Node{text("y"), quote(l...), aside(), text(" "), quote()}
	}
	return l
}

// same tells whether trees are the same, without calls of itself.
func same(a, b []api.Node) bool {
	left := [][2][]api.Node{{a, b}}
	for len(left) > 0 {
		a, b := left[len(left)-1][0], left[len(left)-1][1]
		left = left[:len(left)-1]
		if len(a) != len(b) {
			return false
		}
		for i := range a {
			if a[i].Name != b[i].Name || a[i].Text != b[i].Text || !slices.Equal(a[i].Attrs, b[i].Attrs) {
				return false
			}
			left = append(left, [2][]api.Node{a[i].Kids, b[i].Kids})
		}
	}
	return true
}

func TestVeryDeepOnes(t *testing.T) { // R1
	const levels = 100000
	// With so little room for calls, one for each level would end the program.
	defer debug.SetMaxStack(debug.SetMaxStack(1 << 21))
	l := deep(levels)
	if at, is := fold.Where(l); at != 4 || !is {
		t.Errorf("P21.1: of a very deep tree: %d, %v", at, is)
	}
	once := fold.Fold(l)
	if !same(once, append(slices.Clone(l[:4]), aside(l[4:]...))) {
		t.Error("P21.2: of a very deep tree")
	}
	if !same(fold.Open(once), l) {
		t.Error("P21.3: of a very deep tree")
	}
	if !same(fold.Fold(l[:4]), l[:4]) || !same(fold.Open(l), l) || !same(fold.Open(l[:3]), l[:2]) {
		t.Error("P21.2, P21.3: of a very deep tree that stays")
	}
	var folds []api.Node
	for range levels {
		folds = []api.Node{aside(folds...)}
	}
	if !same(fold.Open(folds), folds[0].Kids) || !same(fold.Fold(folds), folds) {
		t.Error("P21.3: of very many folds in one another")
	}
}

func TestLongOnesEnd(t *testing.T) { // R1
	const size = 1 << 18
	for _, node := range []api.Node{text("a"), text(" "), br(), quote(), quote(text("a"), br()), in("p"), aside(quote())} {
		row := slices.Repeat([]api.Node{node}, size)
		for _, l := range [][]api.Node{row, append([]api.Node{text("a"), quote()}, row...), append(row, quote(), br()), {text("a"), quote(row...)}, {aside(row...)}} {
			place, is := modelWhere(l)
			if at, found := fold.Where(l); at != place || found != is {
				t.Errorf("P21.1: with many of %s: %d, %v", shown([]api.Node{node}), at, found)
			}
			if once := fold.Fold(l); is && !same(fold.Open(once), l) {
				t.Errorf("P21.4: with many of %s", shown([]api.Node{node}))
			}
		}
	}
	long := []api.Node{text("a"), quote(), text(strings.Repeat("\u00a0", size))}
	begins(t, 1, long...)
	lacks(t, append(long, text(strings.Repeat(" ", size)+"x"+strings.Repeat(" ", size)))...)
}

// copied is a tree of its own.
func copied(l []api.Node) []api.Node {
	out := slices.Clone(l)
	for i, node := range out {
		out[i].Attrs = slices.Clone(node.Attrs)
		out[i].Kids = copied(node.Kids)
	}
	return out
}

// roomy is a tree whose lists have room behind them, in which something stands.
func roomy(l []api.Node) []api.Node {
	out := append(slices.Clone(l), in("spare"))
	for i, node := range l {
		out[i].Kids = roomy(node.Kids)
		out[i].Attrs = append(slices.Clone(node.Attrs), api.Attr{Name: "spare"})[:len(node.Attrs)]
	}
	return out[:len(l)]
}

// roomStays tells whether it still stands there.
func roomStays(l []api.Node) bool {
	if l[:len(l)+1][len(l)].Name != "spare" {
		return false
	}
	for _, node := range l {
		if node.Attrs[:len(node.Attrs)+1][len(node.Attrs)].Name != "spare" || !roomStays(node.Kids) {
			return false
		}
	}
	return true
}

// spoil overwrites a tree and all room in it.
func spoil(l []api.Node) {
	for _, node := range l {
		spoil(node.Kids)
		attrs := node.Attrs[:cap(node.Attrs)]
		for i := range attrs {
			attrs[i] = api.Attr{Name: "w", Value: "w"}
		}
	}
	l = l[:cap(l)]
	for i := range l {
		l[i] = text("w")
	}
}

// calls are the calls that answer trees.
func calls() []func(l []api.Node) []api.Node {
	return []func(l []api.Node) []api.Node{fold.Fold, fold.Open}
}

// trees have a tree that is handed in by each way through the calls.
func trees(g *grower, most int) [][]api.Node {
	l := g.grow(most)
	return [][]api.Node{l, append(copied(l), aside(g.grow(most)...)), append(append(g.grow(most), text("a")), quote(g.grow(most)...), br())}
}

func TestWhatIsHandedInStays(t *testing.T) { // R5, R6
	for n, row := 0, growers(213); n < 3000; n++ {
		for _, l := range trees(row[n%len(row)], 1+n%6) {
			l = roomy(l)
			before := copied(l)
			for _, call := range calls() {
				// what is done to an answer is not done to what was handed in
				want := shown(call(l))
				spoil(call(l))
				if u := shown(call(l)); u != want {
					t.Fatalf("R6: of %s: %s, not %s", shown(l), u, want)
				}
			}
			at, is := fold.Where(l)
			if again, still := fold.Where(l); at != again || is != still {
				t.Fatalf("R6: %s", shown(l))
			}
			if !reflect.DeepEqual(l, before) || !roomStays(l) {
				t.Fatalf("R5: %s, not %s", shown(l), shown(before))
			}
		}
	}
}

func TestAnswersAreOnesOwn(t *testing.T) { // R5
	for n, row := 0, growers(214); n < 3000; n++ {
		for _, l := range trees(row[n%len(row)], 1+n%6) {
			for _, call := range calls() {
				l := roomy(l)
				u := call(l)
				want := shown(u)
				// an answer stays, whatever becomes of what was handed in
				spoil(l)
				if shown(u) != want {
					t.Fatalf("R5: %s, not %s", shown(u), want)
				}
				// what is put behind one list is in no other
				fill(u)
				if shown(u) != want {
					t.Fatalf("R5: %s, not %s", shown(u), want)
				}
			}
		}
	}
}

// fill puts something behind each list of a tree.
func fill(l []api.Node) {
	_ = append(l, in("w"), in("w"), in("w"))
	for _, node := range l {
		_ = append(node.Attrs, api.Attr{Name: "w"}, api.Attr{Name: "w"})
		fill(node.Kids)
	}
}

func TestListsThatWereOne(t *testing.T) { // R5
	kids := []api.Node{with(quote(text("x")), "a", "b")}
	l := []api.Node{in("p", kids...), in("p", kids...), quote(kids...), aside(kids...)}
	l[0].Kids, l[1].Kids, l[2].Kids, l[3].Kids = kids, kids, kids, kids
	for _, call := range calls() {
		for _, handed := range [][]api.Node{l, l[:3]} {
			u := call(handed)
			before := shown(u[1:])
			u[0].Kids[0].Attrs[0].Name = "w"
			u[0].Kids[0].Kids[0].Text = "w"
			u[0].Kids[0].Name = "w"
			if shown(u[1:]) != before {
				t.Errorf("R5: %s, not %s", shown(u[1:]), before)
			}
		}
	}
}

package plain_test

import (
	"math/rand"
	"reflect"
	"runtime/debug"
	"slices"
	"strconv"
	"strings"
	"testing"

	"muslin/api"
	"muslin/lines"
	"muslin/plain"
	"muslin/ser"
	"muslin/tree"
)

func text(s string) api.Node { return api.Node{Text: s} }

func in(name string, kids ...api.Node) api.Node { return api.Node{Name: name, Kids: kids} }

func quote(kids ...api.Node) api.Node { return in("blockquote", kids...) }

func br() api.Node { return in("br") }

// shown is a tree in short, with all that stands in any field.
func shown(l []api.Node) string {
	var row []string
	for _, n := range l {
		s := n.Name
		for _, a := range n.Attrs {
			s += " " + a.Name + "=" + strconv.Quote(a.Value)
		}
		if n.Text != "" || n.Name == "" {
			s += strconv.Quote(n.Text)
		}
		if n.Name != "" && n.Name != "br" || len(n.Kids) > 0 {
			s += "[" + shown(n.Kids) + "]"
		}
		row = append(row, s)
	}
	return strings.Join(row, " ")
}

func holdLevel(t *testing.T, line string, level int, says string) {
	t.Helper()
	if n, s := plain.Level(line); n != level || s != says {
		t.Errorf("P20.1: Level(%.200q) is %d, %.200q, not %d, %.200q", line, n, s, level, says)
	}
}

func holdTree(t *testing.T, s, want string) {
	t.Helper()
	if u := shown(plain.Tree(s)); u != want {
		t.Errorf("P20.2: Tree(%.300q) is %.300s, not %.300s", s, u, want)
	}
}

func holdText(t *testing.T, want string, l ...api.Node) {
	t.Helper()
	if s := plain.Text(l); s != want {
		t.Errorf("P20.3: Text(%.300s) is %.300q, not %.300q", shown(l), s, want)
	}
}

func TestLevel(t *testing.T) { // P20.1
	// a line of level 0 says all of it
	for _, s := range []string{"", "a", " ", "  ", " a", " >a", "\t>a", "a>", "a > b", "\u00a0>", "<", "\r>", "\x00>", "\xff>", "&gt;a", "\uff1ea", "|a", "\n>a", "-> a"} {
		holdLevel(t, s, 0, s)
	}
	for _, c := range []struct {
		line  string
		level int
		says  string
	}{
		{">", 1, ""}, {"> ", 1, ""}, {">  ", 1, " "}, {">a", 1, "a"}, {"> a", 1, "a"}, {">  a", 1, " a"}, {">   a ", 1, "  a "}, {">a>", 1, "a>"}, {"> a > b", 1, "a > b"}, {">\ta", 1, "\ta"}, {"> \ta", 1, "\ta"}, {">\t>a", 1, "\t>a"}, {">\u00a0a", 1, "\u00a0a"}, {">  >a", 1, " >a"}, {">a >b", 1, "a >b"}, {">\r", 1, "\r"}, {">\n", 1, "\n"}, {"> \xff", 1, "\xff"},
		{">>", 2, ""}, {"> >", 2, ""}, {"> > ", 2, ""}, {">> a", 2, "a"}, {"> >a", 2, "a"}, {"> > a", 2, "a"}, {"> >  a", 2, " a"}, {">> > x", 3, "x"}, {"> >>x", 3, "x"}, {"> > >  >x", 3, " >x"}, {">>\t>", 2, "\t>"},
	} {
		holdLevel(t, c.line, c.level, c.says)
	}
	for count := range 50 {
		for _, says := range []string{"", "x", "x>", "\t>", "<>", "x > y", "\u00e9\xff"} {
			level := min(count, 20)
			holdLevel(t, strings.Repeat(">", count)+says, level, strings.Repeat(">", count-level)+says)
			holdLevel(t, strings.Repeat("> ", count)+says, level, strings.Repeat("> ", count-level)+says)
			if count > 0 {
				behind := strings.Repeat("> ", count-level) + " " + says
				if count < 20 {
					behind = " " + says
				}
				holdLevel(t, strings.Repeat("> ", count)+" "+says, level, behind)
			}
		}
	}
	holdLevel(t, strings.Repeat(">", 20)+" >x", 20, ">x")
	holdLevel(t, strings.Repeat("> ", 20)+" >x", 20, " >x")
	for c := range 256 {
		b := string([]byte{byte(c)})
		if b == ">" {
			continue
		}
		holdLevel(t, b+">x", 0, b+">x")
		if b != " " {
			holdLevel(t, ">"+b+">x", 1, b+">x")
			holdLevel(t, "> "+b, 1, b)
			holdLevel(t, ">>"+b+" ", 2, b+" ")
		}
	}
}

func TestTree(t *testing.T) { // P20.2
	for s, want := range map[string]string{
		"": ``, "a": `"a"`, "\n": ``, "a\n": `"a"`, "a\r\n": `"a"`, "a\n\n": `"a" br`, "\na": `br "a"`, "\n\n": `br`, "\n\n\n": `br br`, "a\nb": `"a" br "b"`, "a\r\nb\r\n": `"a" br "b"`, "a\n\nb": `"a" br br "b"`, " ": `" "`, " a \n\tb": `" a " br "\tb"`, "a\rb": `"a\rb"`, "a\r": `"a\r"`, "a\r\r\nb": `"a\r" br "b"`, "\r\n\r\n": `br`, "<b>&amp;": `"<b>&amp;"`, "\xff\x00\u00e9": `"\xff\x00é"`,
		// example 1
		"a\n> b\nc": `"a" blockquote["b"] "c"`,
		">":         `blockquote[]`, "> ": `blockquote[]`, ">a": `blockquote["a"]`, ">a\n> b\r\n>": `blockquote["a" br "b" br]`, ">\n>": `blockquote[br]`, ">\n>a": `blockquote[br "a"]`, ">>": `blockquote[blockquote[]]`, ">>a\n": `blockquote[blockquote["a"]]`, ">>>a": `blockquote[blockquote[blockquote["a"]]]`,
		"> a\n\n> b": `blockquote["a"] blockquote["b"]`, "> a\n\n\n> b": `blockquote["a"] br blockquote["b"]`, "> a\nb\n\nc\n> d": `blockquote["a"] "b" br br "c" blockquote["d"]`, "a\n\n>b": `"a" br blockquote["b"]`, "\n>b": `blockquote["b"]`, ">b\n\n": `blockquote["b"]`, ">b\n\nc": `blockquote["b"] br "c"`,
		">a\n>>b\n>c": `blockquote["a" blockquote["b"] "c"]`, ">>a\n>b\n>>c": `blockquote[blockquote["a"] "b" blockquote["c"]]`, ">>a\n>\n>>c": `blockquote[blockquote["a"] blockquote["c"]]`, ">>a\n\n>>b": `blockquote[blockquote["a"]] blockquote[blockquote["b"]]`, ">>>a\n>b\n>>c\nd": `blockquote[blockquote[blockquote["a"]] "b" blockquote["c"]] "d"`, ">a\n>>>b\n>>c\n>>d": `blockquote["a" blockquote[blockquote["b"] "c" br "d"]]`, ">a\n> > b\n>> c\n>  d": `blockquote["a" blockquote["b" br "c"] " d"]`, "a\n>>b\n>>c\nd\n>e": `"a" blockquote[blockquote["b" br "c"]] "d" blockquote["e"]`,
		" > a": `" > a"`, "a\n >b": `"a" br " >b"`, "> \r": `blockquote["\r"]`,
	} {
		holdTree(t, s, want)
	}
	nest := func(levels int, inner string) string {
		return strings.Repeat("blockquote[", levels) + inner + strings.Repeat("]", levels)
	}
	for count := range 40 {
		level := min(count, 20)
		behind := strconv.Quote(strings.Repeat(">", count-level) + "x")
		holdTree(t, strings.Repeat(">", count)+"x", nest(level, behind))
		if count > 0 {
			holdTree(t, strings.Repeat(">", count)+"x\ny", nest(level, behind)+` "y"`)
		}
	}
}

// modelLevel tells a line's level by the chapter's words: the most signs, each but the last one with a blank or without one behind it.
func modelLevel(line string) (int, string) {
	if !strings.HasPrefix(line, ">") {
		return 0, line
	}
	level, end := 1, 1
	for at := 1; level < 20; level++ {
		if at < len(line) && line[at] == ' ' {
			at++
		}
		if at == len(line) || line[at] != '>' {
			break
		}
		at++
		end = at
	}
	if end < len(line) && line[end] == ' ' {
		end++
	}
	return level, line[end:]
}

// modelTree tells the nodes of lines at a level by the chapter's words.
func modelTree(row []string, level int) []api.Node {
	var out []api.Node
	levelOf := func(i int) int {
		n, _ := modelLevel(row[i])
		return n
	}
	for i := 0; i < len(row); {
		if levelOf(i) == level {
			if i > 0 && levelOf(i-1) == level {
				out = append(out, br())
			}
			if _, says := modelLevel(row[i]); says != "" {
				out = append(out, text(says))
			}
			i++
			continue
		}
		end := i
		for end < len(row) && levelOf(end) > level {
			end++
		}
		out = append(out, quote(modelTree(row[i:end], level+1)...))
		i = end
	}
	return out
}

// modelText tells what is written by the chapter's words.
func modelText(l []api.Node) string {
	out := ""
	for _, n := range l {
		switch n.Name {
		case "":
			out += n.Text
		case "br":
			out += "\n"
		case "blockquote":
			if out != "" && out[len(out)-1] != '\n' {
				out += "\n"
			}
			for _, line := range lines.Cut(modelText(n.Kids)) {
				out += "> " + line + "\n"
			}
		default:
			out += modelText(n.Kids)
		}
	}
	return out
}

func mixedText(random *rand.Rand, pieces []string, most int) string {
	s := ""
	for range random.Intn(most) {
		s += pieces[random.Intn(len(pieces))]
	}
	return s
}

func TestMixedLines(t *testing.T) { // P20.1, P20.2, P20.4
	random := rand.New(rand.NewSource(201))
	rows := [][]string{
		{">", ">", " ", "\n", "a"}, {">", "> ", "\n", "\n", "a", "b c"}, {"\n>", "\n> ", "\n", "x", "\n>> "}, {"a", "\n", "\r\n", "\r", " ", ">"}, {">>>>>>>>>", "> > > > ", " ", "\n", "y"}, {"<b>", "&amp;", "</p>", "\u00e9", "\xff", "\n", ">", "\x00", " ", "\u00a0"},
	}
	for n := range 40000 {
		s := mixedText(random, rows[n%len(rows)], 2+n%40)
		for _, line := range lines.Cut(s) {
			level, says := modelLevel(line)
			holdLevel(t, line, level, says)
		}
		l := plain.Tree(s)
		want := modelTree(lines.Cut(s), 0)
		if shown(l) != shown(want) {
			t.Fatalf("P20.2: Tree(%q) is %s, not %s", s, shown(l), shown(want))
		}
		if !ser.Stable(l) {
			t.Fatalf("P20.4: Tree(%q) is not stable: %s", s, shown(l))
		}
		holdText(t, modelText(l), l...)
		if t.Failed() {
			return
		}
	}
}

func TestText(t *testing.T) { // P20.3
	holdText(t, "")
	holdText(t, "a", text("a"))
	holdText(t, "ab", text("a"), text(""), text("b"))
	holdText(t, "<b>&amp;\xff\r\n\n", text("<b>&amp;\xff\r\n\n"))
	holdText(t, "a\nb", text("a"), br(), text("b"))
	holdText(t, "\n\n\n", br(), in("p", br()), br())
	holdText(t, "acd", in("p", text("a"), in("b", text("c"))), text("d"))
	for _, name := range []string{"p", "div", "script", "img", "hr", "BR", "Blockquote", "q", "ul", " ", "br "} {
		holdText(t, "x\nyz", in(name, text("x"), br(), in(name), text("y")), in(name, text("z")))
	}
	// what no document gives a node counts for nothing
	odd := api.Node{Text: "x", Attrs: []api.Attr{{Name: "title", Value: "t"}}, Kids: []api.Node{text("y"), br()}}
	holdText(t, "x", odd)
	odd.Name = "br"
	holdText(t, "\n", odd)
	odd.Name = "p"
	holdText(t, "y\n", odd)
	odd.Name = "blockquote"
	holdText(t, "> y\n", odd)
}

func TestTextOfQuotes(t *testing.T) { // P20.3
	holdText(t, "", quote())
	holdText(t, "> a\n", quote(text("a")))
	holdText(t, "> a\n> b\n", quote(text("a"), br(), text("b")))
	holdText(t, "> a\n> b\n", quote(text("a\nb\n")))
	holdText(t, "> \n> \n", quote(br(), br()))
	holdText(t, "> a\n", quote(text("a"), br()))
	holdText(t, "> \n> a\n> \n", quote(br(), text("a"), br(), br()))
	holdText(t, ">  a\n", quote(text(" a")))
	holdText(t, "> > a\n", quote(quote(text("a"))))
	holdText(t, "> a\n> > b\n> c\n", quote(text("a"), quote(text("b")), text("c")))
	holdText(t, "> > > a\n> > b\n> c\n", quote(quote(quote(text("a")), text("b")), text("c")))
	holdText(t, "", quote(quote(quote())), in("p"))
	holdText(t, "> ab\n", quote(in("p", text("a")), in("i", in("b", text("b")))))
	holdText(t, "> a\n> b\nc", quote(text("a")), quote(text("b")), text("c"))
	holdText(t, "> a\n\n> b\n", quote(text("a")), br(), quote(text("b")))
	// ends of lines
	holdText(t, "> a\n> b\n", quote(text("a\r\nb\r\n")))
	holdText(t, "> a\n", quote(text("a\r"), br()))
	holdText(t, "> a\r\n", quote(text("a\r")))
	holdText(t, "> a\rb\r\n> \n", quote(text("a\rb\r\r\n\r\n")))
	holdText(t, "> > a\r\n> > b\n> > c\n", quote(quote(text("a\r\r\r\nb\r\r\nc\r"))))
	holdText(t, "a\r\nb", text("a\r"), br(), text("b"))
	// a line feed ahead of a quote
	holdText(t, "a\n> b\nc", text("a"), quote(text("b")), text("c"))
	holdText(t, "a\n> b\n", text("a"), br(), quote(text("b")))
	holdText(t, "a\n> b\n", text("a\n"), quote(text("b")))
	holdText(t, "a\n> b\n", in("p", text("a")), quote(text("b")))
	holdText(t, "a\n> b\n", text("a"), text(""), in("p"), quote(text("b")))
	holdText(t, "a\r\n> b\n", text("a\r"), quote(text("b")))
	holdText(t, "> b\n", text(""), in("p", in("i")), quote(), quote(text("b")))
	holdText(t, "a\nb", text("a"), quote(), text("b"))
	holdText(t, "a\nb", text("a"), br(), quote(), quote(quote()), text("b"))
	holdText(t, "> a\n> b\n> > c\n", quote(text("a"), br(), in("p", text("b")), quote(text("c"))))
	holdText(t, "> a\n> b\n", quote(text("a"), quote(), text("b")))
	// what is ahead of it in another row is not
	holdText(t, "a> b\nc", text("a"), in("p", quote(text("b"))), text("c"))
	holdText(t, "a> b\n> c\n", text("a"), in("p", in("p"), quote(text("b"), br(), text("c"))))
	holdText(t, "ax\n> b\n", text("a"), in("p", text("x"), quote(text("b"))))
	holdText(t, "a\nx\n> b\n", text("a"), br(), in("p", in("i", text("x")), quote(text("b"))))
	holdText(t, "> a> b\n> c\n", quote(text("a"), in("p", quote(text("b"))), text("c")))
	holdText(t, "> a> > b\n> > > c\n", quote(text("a"), in("p", quote(quote(text("b"), br(), text("c"))))))
	holdText(t, "> > a> b\n", quote(quote(text("a"), in("p", quote(text("b"))))))
	holdText(t, "a> b\n> c\n", text("a"), in("p", quote(text("b")), quote(text("c"))))
	holdText(t, "ab", text("a"), in("p", quote()), text("b"))
	holdText(t, "a> \n> b\n", text("a"), in("p", in("p", quote(br(), text("b\r\n")))))
	holdText(t, "ab\n> c\n> d\n", text("a"), in("p", text("b"), quote(text("c"))), quote(text("d")))
}

// grower makes trees of all sorts.
type grower struct {
	random *rand.Rand
	names  []string
	texts  []string
}

func (g *grower) grow(most int) []api.Node {
	var l []api.Node
	for range g.random.Intn(most + 1) {
		if g.random.Intn(3) == 0 {
			l = append(l, text(mixedText(g.random, g.texts, 4)))
			continue
		}
		node := in(g.names[g.random.Intn(len(g.names))], g.grow(most-1)...)
		if g.random.Intn(50) == 0 {
			node.Text = "odd"
		}
		l = append(l, node)
	}
	return l
}

func growers(seed int64) []*grower {
	random := rand.New(rand.NewSource(seed))
	var l []*grower
	for _, names := range [][]string{{"blockquote", "br"}, {"blockquote", "p", "br"}, {"blockquote"}, {"blockquote", "p", "b", "i"}, {"p", "br", "hr"}} {
		for _, texts := range [][]string{{"a", "b"}, {"a", "\n", "\r"}, {"\r", "\n", "\r\n", ">", " ", "x"}} {
			l = append(l, &grower{random, names, texts})
		}
	}
	return l
}

func TestMixedTrees(t *testing.T) { // P20.3
	for n, row := 0, growers(203); n < 60000; n++ {
		l := row[n%len(row)].grow(1 + n%6)
		holdText(t, modelText(l), l...)
		if t.Failed() {
			return
		}
	}
}

func TestTextOfTree(t *testing.T) { // P20.4
	hold := func(s string) {
		t.Helper()
		if u := plain.Text(plain.Tree(s)); u != strings.TrimSuffix(s, "\n") {
			t.Fatalf("P20.4: %.200q is %.200q then", s, u)
		}
	}
	for _, s := range []string{"", "a", "a\n", "a\nb", "a\n\n", "\n", "\n\n", "\na", " \n ", " > a\nb > c\n", "a\n\n\nb\n\n", "<blockquote>&gt;\n", "\xff\x00\n\t"} {
		hold(s)
	}
	random := rand.New(rand.NewSource(204))
	for range 20000 {
		row := strings.Split(mixedText(random, []string{"a", " ", ">", "\n", "\n", "<b>", "&amp;", "\u00e9", "\xff", "\x00"}, 20), "\n")
		for i, line := range row {
			row[i] = strings.TrimLeft(line, ">")
		}
		hold(strings.Join(row, "\n"))
	}
	hold(strings.Repeat("ab\n", 100000))
	hold(strings.Repeat("\n", 100000))
	// what is quoted is written with a blank behind each sign
	for s, want := range map[string]string{"a\n>b\nc": "a\n> b\nc", ">>b": "> > b\n", "> a\n>\n> b\n": "> a\n> \n> b\n", ">a\n>> b\n>c\n\nd\n": "> a\n> > b\n> c\n\nd"} {
		if u := plain.Text(plain.Tree(s)); u != want {
			t.Errorf("P20.3: %q is %q then, not %q", s, u, want)
		}
	}
}

func TestTextsTreesAreStable(t *testing.T) { // P20.4
	for _, s := range []string{"", "\n", "a\n> b\nc", ">", strings.Repeat(">", 40) + "x", "<p>\n></p>\n>>&lt;", "a\rb\n>\r", strings.Repeat("x\n", 2500), strings.Repeat("> x\n", 2500)[:9998], strings.Repeat("\n", 5001), strings.Repeat("x", 200000)} {
		if l := plain.Tree(s); !ser.Stable(l) {
			t.Errorf("P20.4: Tree(%.100q) is not stable, of %d nodes", s, tree.Count(l))
		}
	}
}

func TestVeryDeepOnes(t *testing.T) { // R1
	const levels = 100000
	// With so little room for calls, one for each level would end the program.
	defer debug.SetMaxStack(debug.SetMaxStack(1 << 21))
	quotes, others := []api.Node{text("x\r"), br()}, []api.Node{text("x")}
	for range levels {
		quotes = []api.Node{quote(quotes...)}
		others = []api.Node{text("y"), in("p", others...), br()}
	}
	holdText(t, strings.Repeat("> ", levels)+"x\n", quotes...)
	holdText(t, strings.Repeat("y", levels)+"x"+strings.Repeat("\n", levels), others...)
	var both []api.Node
	for range 1000 {
		both = []api.Node{quote(append(both, text("y"))...)}
	}
	want := ""
	for level := 1000; level > 0; level-- {
		want += strings.Repeat("> ", level) + "y\n"
	}
	holdText(t, want, both...)
}

func TestLongOnesEnd(t *testing.T) { // R1
	const size = 1 << 17
	for _, one := range []string{"a", ">", " ", "\n", "\r", "\r\n", "> ", ">\n", "a\n", ">a\na\n", ">>a\n>b\n", strings.Repeat(">", 30) + "\n", "<", "\xff"} {
		s := strings.Repeat(one, size)
		l := plain.Tree(s)
		if level, says := plain.Level(s); level > 20 || len(says) > len(s) {
			t.Errorf("P20.1: of many %q: %d", one, level)
		}
		if tree.Depth(l) > 21 {
			t.Errorf("P20.2: many of %q are %d deep", one, tree.Depth(l))
		}
		if u, want := plain.Text(l), modelSize(l); len(u) != want {
			t.Errorf("P20.3: many of %q are %d bytes, not %d", one, len(u), want)
		}
	}
	for _, node := range []api.Node{text("a"), text("a\n"), br(), quote(), quote(text("a")), in("p", quote(text("a"), br())), text("")} {
		l := slices.Repeat([]api.Node{node}, size)
		holdText(t, strings.Repeat(modelText([]api.Node{node}), size), l...)
		holdText(t, strings.Repeat(modelText([]api.Node{quote(node)}), size), slices.Repeat([]api.Node{quote(node)}, size)...)
	}
}

// modelSize is how many bytes are written of a plain text's tree: it has no line feed within texts, and each quote is in its own row.
func modelSize(l []api.Node) int {
	size, open := 0, false
	var write func(l []api.Node, level int)
	write = func(l []api.Node, level int) {
		for _, n := range l {
			switch {
			case n.Name == "":
				if !open {
					size += 2 * level
				}
				size += len(n.Text)
				open = true
			case n.Name == "br":
				if !open {
					size += 2 * level
				}
				size++
				open = false
			default:
				if open {
					size++
				}
				open = false
				write(n.Kids, level+1)
				if open {
					size++
				}
				open = false
			}
		}
	}
	write(l, 0)
	return size
}

// copied is a tree of its own.
func copied(l []api.Node) []api.Node {
	out := slices.Clone(l)
	for i := range out {
		out[i].Attrs = slices.Clone(out[i].Attrs)
		out[i].Kids = copied(out[i].Kids)
	}
	return out
}

// roomy is a tree whose lists have room behind them, in which something stands.
func roomy(l []api.Node) []api.Node {
	out := append(slices.Clone(l), in("spare"))
	for i, node := range l {
		out[i].Kids = roomy(node.Kids)
	}
	return out[:len(l)]
}

// roomStays tells whether it still stands there.
func roomStays(l []api.Node) bool {
	if l[:len(l)+1][len(l)].Name != "spare" {
		return false
	}
	for _, node := range l {
		if !roomStays(node.Kids) {
			return false
		}
	}
	return true
}

func TestWhatIsHandedInStays(t *testing.T) { // R5, R6
	for n, row := 0, growers(205); n < 3000; n++ {
		l := roomy(row[n%len(row)].grow(1 + n%5))
		before := copied(l)
		s := plain.Text(l)
		if plain.Text(l) != s {
			t.Fatalf("R6: %s", shown(l))
		}
		if !reflect.DeepEqual(l, before) || !roomStays(l) {
			t.Fatalf("R5: %s, not %s", shown(l), shown(before))
		}
	}
}

func TestAnswersAreOnesOwn(t *testing.T) { // R5, R6
	random := rand.New(rand.NewSource(206))
	for range 2000 {
		s := mixedText(random, []string{">", "> ", "\n", "\n>", "a"}, 40)
		l, want := plain.Tree(s), shown(plain.Tree(s))
		var fill func(l []api.Node)
		fill = func(l []api.Node) {
			_ = append(l, in("w"), in("w"), in("w"))
			for _, node := range l {
				_ = append(node.Attrs, api.Attr{Name: "w"})
				fill(node.Kids)
			}
		}
		// what is put behind one list is in no other
		fill(l)
		if shown(l) != want {
			t.Fatalf("R5: %s, not %s", shown(l), want)
		}
		clear(l)
		if shown(plain.Tree(s)) != want {
			t.Fatalf("R6: %s, not %s", shown(plain.Tree(s)), want)
		}
	}
}

package pick_test

import (
	"math/rand"
	"reflect"
	"runtime/debug"
	"slices"
	"strconv"
	"strings"
	"testing"

	"muslin/api"
	"muslin/attach"
	"muslin/parts"
	"muslin/pick"
	"muslin/plain"
	"muslin/ser"
	"muslin/tree"
)

const disposition = "Content-Disposition"

// part makes one of a kind and a body, with fields of names and values by turns.
func part(kind, body string, row ...string) api.Part {
	p := api.Part{Kind: kind, Body: body}
	for i := 0; i < len(row); i += 2 {
		p.Fields = append(p.Fields, api.Field{Name: row[i], Value: row[i+1]})
	}
	return p
}

// with is a part with parameters of names and values by turns.
func with(p api.Part, row ...string) api.Part {
	p.Params = nil
	for i := 0; i < len(row); i += 2 {
		p.Params = append(p.Params, api.Param{Name: row[i], Value: row[i+1]})
	}
	return p
}

func txt(body string) api.Part { return part("text/plain", body) }

func htm(body string) api.Part { return part("text/html", body) }

// png is one that is not shown.
func png() api.Part { return part("image/png", "no", "Content-ID", "<x>") }

// in is a part of a kind that has others.
func in(kind string, l ...api.Part) api.Part { return api.Part{Kind: kind, Parts: l} }

func alt(l ...api.Part) api.Part { return in("multipart/alternative", l...) }

func mix(l ...api.Part) api.Part { return in("multipart/mixed", l...) }

// told is a part in short, with all that stands in any field.
func told(p api.Part) string {
	s := p.Kind + strconv.Quote(p.Body)
	for _, f := range p.Fields {
		s += " " + strconv.Quote(f.Name) + ":" + strconv.Quote(f.Value)
	}
	for _, one := range p.Params {
		s += " " + strconv.Quote(one.Name) + "=" + strconv.Quote(one.Value)
	}
	if len(p.Parts) == 0 {
		return s
	}
	var row []string
	for _, inner := range p.Parts {
		row = append(row, told(inner))
	}
	return s + "[" + strings.Join(row, ", ") + "]"
}

// picks tells which part of one is shown.
func picks(t *testing.T, p, want api.Part) {
	t.Helper()
	if u, is := pick.Body(p); told(u) != told(want) || !is {
		t.Errorf("P22.1: Body(%.300s) is %.300s, %v, not %.300s, true", told(p), told(u), is, told(want))
	}
}

// none tells that no part of one is shown.
func none(t *testing.T, p api.Part) {
	t.Helper()
	if u, is := pick.Body(p); !reflect.DeepEqual(u, api.Part{}) || is {
		t.Errorf("P22.1: Body(%.300s) is %.300s, %v, not an empty one, false", told(p), told(u), is)
	}
}

func TestBodyOfALeaf(t *testing.T) { // P22.1
	for _, kind := range []string{"text/plain", "text/html"} {
		for _, p := range []api.Part{part(kind, "x"), part(kind, ""), with(part(kind, "\xff\r\n", "A", "b", disposition, "inline", "A", ""), "charset", "latin1", "c", "d")} {
			picks(t, p, p)
			p.Parts = []api.Part{}
			picks(t, p, p)
			p.Parts = []api.Part{txt("y")}
			none(t, p)
		}
		none(t, part(kind, "x", disposition, "attachment"))
		none(t, part(kind, "x", disposition, "inline; filename=f"))
		none(t, with(part(kind, "x"), "name", "n"))
	}
	for _, kind := range []string{"", "text", "text/css", "Text/Plain", "TEXT/HTML", "text/plain ", "image/png", "message/rfc822", "multipart/mixed", "multipart/alternative", "multipart/"} {
		none(t, part(kind, "x"))
		none(t, part(kind, "--x\n\ny\n--x--\n"))
	}
	none(t, api.Part{})
}

func TestBodyOfAnAlternative(t *testing.T) { // P22.1
	a, b, c := txt("a"), htm("b"), txt("c")
	picks(t, alt(a), a)
	picks(t, alt(a, b), b)
	picks(t, alt(b, a), a)
	picks(t, alt(a, b, c), c)
	picks(t, alt(a, b, png()), b)
	picks(t, alt(a, png(), png()), a)
	picks(t, alt(png(), a, png(), b, png(), png()), b)
	picks(t, alt(a, mix(b, c)), b)
	picks(t, alt(a, mix(png(), c, b)), c)
	picks(t, alt(a, mix(png())), a)
	picks(t, alt(a, mix(), mix(mix(png()))), a)
	picks(t, alt(a, alt(b, c)), c)
	picks(t, alt(alt(a, b), alt(png())), b)
	picks(t, alt(alt(a, mix(b, c)), png()), b)
	picks(t, alt(mix(c, a), in("message/rfc822", b)), c)
	picks(t, alt(a, part("text/html", "b", disposition, "attachment")), a)
	picks(t, alt(a, with(htm("b"), "name", "n")), a)
	none(t, alt())
	none(t, alt(png(), png()))
	none(t, alt(alt(), mix(alt(png()))))
}

func TestBodyOfOthers(t *testing.T) { // P22.1
	a, b, c := txt("a"), htm("b"), txt("c")
	for _, kind := range []string{"multipart/mixed", "multipart/related", "multipart/signed", "multipart/report", "multipart/x", "multipart/", "multipart//", "multipart/ ", "multipart/alternativex", "multipart/alternativ", "multipart/alternative ", "multipart/Alternative", "multipart/ALTERNATIVE", "multipart/x-alternative", "multipart/alternative; a=b", "multipart/\xff"} {
		picks(t, in(kind, a), a)
		picks(t, in(kind, a, b), a)
		picks(t, in(kind, b, a), b)
		picks(t, in(kind, c, a, b), c)
		picks(t, in(kind, png(), b, a), b)
		picks(t, in(kind, png(), png(), a), a)
		picks(t, in(kind, alt(a, b), c), b)
		picks(t, in(kind, png(), alt(png()), alt(a, b, png()), c), b)
		picks(t, in(kind, mix(png(), mix()), in(kind, mix(b), c), a), b)
		picks(t, in(kind, in("message/rfc822", a), b), b)
		picks(t, in(kind, part("text/plain", "a", disposition, "attachment"), with(txt("a"), "name", "n"), c, b), c)
		none(t, in(kind))
		none(t, in(kind, png()))
		none(t, in(kind, png(), in(kind, png(), in(kind)), alt(in(kind))))
	}
	// what is in any other part is not looked into
	for _, kind := range []string{"message/rfc822", "message/partial", "", "text/plain", "text/html", "multipart", "multipar/x", "Multipart/mixed", "MULTIPART/ALTERNATIVE", " multipart/mixed", "xmultipart/mixed", "x/multipart/mixed", "alternative", "application/pdf", "/"} {
		none(t, in(kind, a))
		none(t, in(kind, a, b, alt(c)))
		none(t, mix(in(kind, a), png()))
		none(t, alt(in(kind, a, b)))
		picks(t, mix(in(kind, a), b, c), b)
		picks(t, alt(b, c, in(kind, a)), c)
	}
	// what stands in a part beside its parts counts for nothing
	p := with(part("multipart/mixed", "body", disposition, "attachment; filename=f"), "name", "n", "boundary", "b")
	p.Parts = []api.Part{png(), b, a}
	picks(t, p, b)
	p.Kind = "multipart/alternative"
	picks(t, p, a)
}

func TestBodyOfMessages(t *testing.T) { // P22.1
	for s, want := range map[string]string{
		"\n\na": "\na", "Content-Type: text/html\n\nb": "b", "Content-Type: image/png\n\nc": "",
		"Content-Type: multipart/alternative; boundary=x\n\n--x\n\na\n--x\nContent-Type: text/html\n\nb\n--x--\n":                                                                                                         "b",
		"Content-Type: multipart/mixed; boundary=x\n\n--x\n\na\n--x\nContent-Type: text/html\n\nb\n--x--\n":                                                                                                               "a",
		"Content-Type: multipart/related; boundary=x\n\n--x\nContent-Type: multipart/alternative; boundary=y\n\n--y\n\na\n--y\nContent-Type: text/html\n\nb\n--y\nContent-Type: image/png\n\nc\n--y--\n--x\n\nd\n--x--\n": "b",
		"Content-Type: multipart/mixed; boundary=x\n\n--x\nContent-Type: message/rfc822\n\n\na\n--x\nContent-Disposition: attachment\n\nb\n--x\n\nc\n--x--\n":                                                             "c",
		"Content-Type: message/rfc822\n\n\na": "",
	} {
		if u, is := pick.Body(parts.Parse(s)); u.Body != want || is != (want != "") {
			t.Errorf("P22.1: of %q: %s, %v, not %q", s, told(u), is, want)
		}
	}
}

// modelBody tells the part by the chapter's words.
func modelBody(p api.Part) (api.Part, bool) {
	if attach.Shown(p) {
		return p, true
	}
	if !strings.HasPrefix(p.Kind, "multipart/") {
		return api.Part{}, false
	}
	for i := range p.Parts {
		at := i
		if p.Kind == "multipart/alternative" {
			at = len(p.Parts) - 1 - i
		}
		if u, is := modelBody(p.Parts[at]); is {
			return u, true
		}
	}
	return api.Part{}, false
}

// grower makes parts of all sorts.
type grower struct {
	random *rand.Rand
	leaves int // one of so many parts is a leaf that is shown
}

func (g *grower) one(row ...string) string { return row[g.random.Intn(len(row))] }

func (g *grower) leaf() api.Part {
	p := part(g.one("image/png", "text/css", "message/rfc822", "text/plain", "text/html"), strconv.Itoa(g.random.Intn(1000)))
	if g.random.Intn(g.leaves) == 0 {
		p.Kind = g.one("text/plain", "text/html")
		return p
	}
	if p.Kind == "text/plain" || p.Kind == "text/html" {
		switch g.random.Intn(3) {
		case 0:
			p.Fields = part("", "", "A", "b", disposition, g.one("attachment", "inline; filename=f")).Fields
		case 1:
			p.Params = with(p, "charset", "utf-8", "name", "n").Params
		case 2:
			p.Parts = []api.Part{txt("inner")}
		}
	}
	return p
}

func (g *grower) grow(most int) api.Part {
	if most == 0 || g.random.Intn(3) == 0 {
		return g.leaf()
	}
	p := part(g.one("multipart/alternative", "multipart/alternative", "multipart/mixed", "multipart/related", "message/rfc822"), "body", "C", "d")
	for range g.random.Intn(5) {
		p.Parts = append(p.Parts, g.grow(most-1))
	}
	return p
}

func growers(seed int64) []*grower {
	random := rand.New(rand.NewSource(seed))
	return []*grower{{random, 2}, {random, 5}, {random, 20}, {random, 100}}
}

func TestMixed(t *testing.T) { // P22.1, P22.3
	counts := map[bool]int{}
	for n, row := 0, growers(221); n < 60000; n++ {
		p := row[n%len(row)].grow(n % 6)
		want, is := modelBody(p)
		if len(p.Parts) > 1 {
			counts[is]++
		}
		if !is {
			none(t, p)
		} else {
			picks(t, p, want)
			if u, _ := pick.Body(p); !attach.Shown(u) || len(u.Parts) > 0 {
				t.Errorf("P22.3: of %s: %s is not shown, or no leaf", told(p), told(u))
			}
		}
		if t.Failed() {
			return
		}
	}
	if counts[true] < 3000 || counts[false] < 3000 {
		t.Errorf("P22.1: only %d have one, %d none", counts[true], counts[false])
	}
}

// says tells what a part says, as a document.
func says(t *testing.T, p api.Part, want string) {
	t.Helper()
	if u := ser.Write(pick.Tree(p)); u != want {
		t.Errorf("P22.2: Tree(%.300s) is %.300q, not %.300q", told(p), u, want)
	}
}

func TestTree(t *testing.T) { // P22.2
	says(t, htm("<p>a<p>b&amp;\n> c"), "<p>a</p><p>b&amp;\n&gt; c</p>")
	says(t, txt("<p>a<p>b&amp;\n> c"), "&lt;p&gt;a&lt;p&gt;b&amp;amp;<blockquote>c</blockquote>")
	says(t, htm(""), "")
	says(t, txt(""), "")
	says(t, api.Part{}, "")
	for _, kind := range []string{"", "text/plain", "text/css", "text", "Text/HTML", "TEXT/html", "text/html ", " text/html", "text/htm", "text/html5", "html", "application/xhtml+xml", "image/png", "multipart/alternative", "message/rfc822"} {
		says(t, part(kind, "<b>x</b>\n> y"), "&lt;b&gt;x&lt;/b&gt;<blockquote>y</blockquote>")
	}
	for _, kind := range []string{"text/plain", "text/html"} {
		// by its alphabet, and by what its bytes stand for
		says(t, part(kind, "caf\xe9"), "caf\u00e9")
		says(t, with(part(kind, "caf\xc3\xa9\xff"), "charset", "utf-8"), "caf\u00e9\ufffd")
		says(t, with(part(kind, "a=E4=\r\nb=3C=", "Content-Transfer-Encoding", "quoted-printable"), "charset", "koi8-r"), "a\ufffdb&lt;=")
		says(t, part(kind, "YSBi", "content-transfer-encoding", "BASE64"), "a b")
		// whether it is shown or not
		says(t, with(part(kind, "x", disposition, "attachment"), "name", "n"), "x")
		p := part(kind, "x")
		p.Parts = []api.Part{htm("<p>"), txt("y")}
		says(t, p, "x")
	}
	says(t, htm("a\r\nb\rc"), "a\nb\nc")
	says(t, txt("a\r\nb\rc\r> d\r\n"), "a<br>b<br>c<blockquote>d</blockquote>")
	says(t, part("text/html", "PGI+eDxpPnk=", "Content-Transfer-Encoding", "base64"), "<b>x<i>y</i></b>")
	// it is not made clean
	says(t, htm("<script>x</script><b onclick=y>"), "<script>x</script><b onclick=\"y\"></b>")
}

func TestMixedTrees(t *testing.T) { // P22.2
	random := rand.New(rand.NewSource(222))
	pieces := []string{"<p>", "</p>", "<b a=c>", "> ", "\n", "\r", "a", "&lt;", "=", "3E", "\xe9", "\xc3\xa9", ">", "PGI+"}
	for n := range 20000 {
		body := ""
		for range random.Intn(20) {
			body += pieces[random.Intn(len(pieces))]
		}
		p := part([]string{"text/plain", "text/html", "text/x"}[n%3], body, "Content-Transfer-Encoding", []string{"", "base64", "quoted-printable"}[random.Intn(3)])
		if random.Intn(2) == 0 {
			p = with(p, "charset", "utf-8")
		}
		want := plain.Tree(attach.Text(p))
		if p.Kind == "text/html" {
			want = tree.Build(attach.Text(p))
		}
		if u := pick.Tree(p); !reflect.DeepEqual(u, want) {
			t.Fatalf("P22.2: Tree(%s) is %s, not %s", told(p), ser.Write(u), ser.Write(want))
		}
	}
}

func TestVeryDeepOnes(t *testing.T) { // R1
	const levels = 100000
	// With so little room for calls, one for each level would end the program.
	defer debug.SetMaxStack(debug.SetMaxStack(1 << 21))
	for _, kind := range []string{"multipart/alternative", "multipart/mixed"} {
		full, empty, behind := htm("x"), png(), txt("y")
		for range levels {
			full = in(kind, png(), full, png())
			empty = in(kind, png(), empty)
			behind = in(kind, png(), mix(), behind, alt(png()))
		}
		if u, is := pick.Body(full); told(u) != told(htm("x")) || !is {
			t.Errorf("P22.1: of a very deep one: %.300s, %v", told(u), is)
		}
		if u, is := pick.Body(empty); !reflect.DeepEqual(u, api.Part{}) || is {
			t.Errorf("P22.1: of a very deep one: %.300s, %v", told(u), is)
		}
		if u, is := pick.Body(in(kind, empty, behind, empty)); told(u) != told(txt("y")) || !is {
			t.Errorf("P22.1: of a very deep one: %.300s, %v", told(u), is)
		}
		deep := full
		deep.Kind = "text/html"
		deep.Body = "<b>z"
		says(t, deep, "<b>z</b>")
		none(t, in(kind, in("message/rfc822", txt("x"))))
	}
}

func TestLongOnesEnd(t *testing.T) { // R1
	const size = 1 << 17
	for _, kind := range []string{"multipart/alternative", "multipart/mixed"} {
		for _, one := range []api.Part{png(), mix(), alt(png(), png()), in("message/rfc822", txt("a")), with(txt("x"), "name", "n")} {
			row := slices.Repeat([]api.Part{one}, size)
			if u, is := pick.Body(in(kind, row...)); !reflect.DeepEqual(u, api.Part{}) || is {
				t.Errorf("P22.1: many of %s: %s, %v", told(one), told(u), is)
			}
			for _, l := range [][]api.Part{append([]api.Part{htm("x")}, row...), append(row, htm("x")), append(row[:size/2:size/2], append([]api.Part{htm("x")}, row...)...)} {
				if u, is := pick.Body(in(kind, l...)); told(u) != told(htm("x")) || !is {
					t.Errorf("P22.1: one of many of %s: %s, %v", told(one), told(u), is)
				}
			}
		}
	}
	for _, one := range []string{"a", "<b>", "<p>x", "> ", "\n", "&", "\xff", "<"} {
		s := strings.Repeat(one, size)
		if l := pick.Tree(htm(s)); tree.Count(l) > 5000 || tree.Depth(l) > 31 {
			t.Errorf("P22.2: many of %q: %d nodes, %d deep", one, tree.Count(l), tree.Depth(l))
		}
		if l := pick.Tree(txt(s)); tree.Depth(l) > 21 {
			t.Errorf("P22.2: many of %q: %d deep", one, tree.Depth(l))
		}
	}
}

// copied is a part of its own.
func copied(p api.Part) api.Part {
	p.Fields, p.Params, p.Parts = slices.Clone(p.Fields), slices.Clone(p.Params), slices.Clone(p.Parts)
	for i := range p.Parts {
		p.Parts[i] = copied(p.Parts[i])
	}
	return p
}

// roomy is a part whose lists have room behind them, in which something stands.
func roomy(p api.Part) api.Part {
	p.Fields = append(slices.Clone(p.Fields), api.Field{Name: "spare"})[:len(p.Fields)]
	p.Params = append(slices.Clone(p.Params), api.Param{Name: "spare"})[:len(p.Params)]
	row := []api.Part{}
	for _, inner := range p.Parts {
		row = append(row, roomy(inner))
	}
	p.Parts = append(row, api.Part{Kind: "spare"})[:len(row)]
	return p
}

// roomStays tells whether it still stands there.
func roomStays(p api.Part) bool {
	for _, inner := range p.Parts {
		if !roomStays(inner) {
			return false
		}
	}
	return p.Fields[:len(p.Fields)+1][len(p.Fields)].Name == "spare" && p.Params[:len(p.Params)+1][len(p.Params)].Name == "spare" && p.Parts[:len(p.Parts)+1][len(p.Parts)].Kind == "spare"
}

// spoil overwrites all lists of a part, and all room in them.
func spoil(p api.Part) {
	for _, inner := range p.Parts {
		spoil(inner)
	}
	fields, params, row := p.Fields[:cap(p.Fields)], p.Params[:cap(p.Params)], p.Parts[:cap(p.Parts)]
	for i := range fields {
		fields[i] = api.Field{Name: "w"}
	}
	for i := range params {
		params[i] = api.Param{Name: "w"}
	}
	for i := range row {
		row[i] = api.Part{Kind: "w"}
	}
}

// full is a leaf that is shown, with all that one can have.
func full() api.Part {
	return with(part("text/html", "<b>x", "A", "b", disposition, "inline", "C", "d"), "charset", "latin1", "x", "y")
}

func TestWhatIsHandedInStays(t *testing.T) { // R5, R6
	for n, row := 0, growers(223); n < 3000; n++ {
		g := row[n%len(row)]
		p := roomy(mix(g.grow(n%5), full(), g.grow(n%5)))
		if n%2 == 0 {
			p = roomy(alt(p, g.grow(n%4)))
		}
		before := copied(p)
		u, is := pick.Body(p)
		want := told(u)
		// what is done to an answer is not done to what was handed in
		spoil(u)
		if u, still := pick.Body(p); told(u) != want || still != is {
			t.Fatalf("R6: of %s: %s, not %s", told(p), told(u), want)
		}
		clear(pick.Tree(p))
		if !reflect.DeepEqual(p, before) || !roomStays(p) {
			t.Fatalf("R5: %s, not %s", told(p), told(before))
		}
	}
}

func TestAnswersAreOnesOwn(t *testing.T) { // R5, R6
	for _, p := range []api.Part{full(), mix(png(), full()), alt(full(), png()), mix(alt(mix(full())))} {
		p = roomy(p)
		u, _ := pick.Body(p)
		// an answer stays, whatever becomes of what was handed in
		spoil(p)
		if told(u) != told(full()) {
			t.Errorf("R5: %s, not %s", told(u), told(full()))
		}
		if cap(u.Parts) > 0 {
			t.Errorf("R5: a leaf has room for %d parts", cap(u.Parts))
		}
	}
	for _, p := range []api.Part{htm("<p a=b>x<p>y"), txt("x\n> y\n> z")} {
		l := pick.Tree(p)
		want := ser.Write(l)
		_ = append(l, api.Node{Name: "w"})
		for _, node := range l {
			_ = append(node.Kids, api.Node{Name: "w"})
			_ = append(node.Attrs, api.Attr{Name: "w"})
		}
		if ser.Write(l) != want {
			t.Errorf("R5: %s, not %s", ser.Write(l), want)
		}
		clear(l)
		says(t, p, want)
	}
}

package clean_test

import (
	"html"
	"math/rand"
	"reflect"
	"regexp"
	"slices"
	"strconv"
	"strings"
	"testing"

	"muslin/addr"
	"muslin/api"
	"muslin/attach"
	"muslin/b64"
	"muslin/clean"
	"muslin/lines"
	"muslin/param"
	"muslin/parts"
	"muslin/qp"
	"muslin/ser"
	"muslin/settle"
	"muslin/stamp"
	"muslin/tree"
	"muslin/wash"
	"muslin/word"
)

// grower makes messages and documents of all sorts.
type grower struct {
	*rand.Rand
}

func newGrower(seed int64) grower { return grower{rand.New(rand.NewSource(seed))} }

func (g grower) one(row ...string) string { return row[g.Intn(len(row))] }

func (g grower) policy() api.Policy {
	return policies()[g.Intn(8)]
}

func (g grower) files() []api.Attached {
	return []api.Attached{{Kind: "image/png", Id: "i"}, {Kind: "text/css", Id: "j"}, {Kind: "image/gif", Id: "k"}}[:g.Intn(4)]
}

func (g grower) name() string {
	return g.one("a", "a", "b", "blockquote", "br", "code", "dd", "div", "dl", "dt", "h1", "h6", "hr", "i", "img", "img", "img", "li", "ol", "p", "p", "pre", "s", "span", "ul", "A", "P", "table", "td", "font", "center", "button", "script", "style", "title", "svg", "math", "object", "iframe", "base", "link", "meta", "input", "form", "video", "noscript", "x", "marquee")
}

func (g grower) value() string {
	return g.one("http://h/p", "https://h/p", "HTTPS://h", "http:///h", "https:h", "mailto:a@b", "javascript:x", "java\tscript:x", " data:text/html,x", "vbscript:x", "file:///x", "ftp://h", "//h", "x.png", "", "cid:i", "CID:k", "cid:j", "cid:none", "cid:", "att:0", "att:1", "att:2", "att:00", "att:9",
		"color: red", "COLOR:blue; width: 1px", "background: url(http://h)", "color: expression(x)", "background-image:url(x)", "width: 10%; @import x", "color: \\72", "behavior: x", "ltr", "RTL", "en-GB", "0", "1", "17", "99999", "-1", "quoted", "noopener", "<b>", "&quot;", "&lt;script&gt;", "\u00a0\xff", "'", "x\" onclick=\"x", "&#106;avascript:x", "&#13;&#10;")
}

func (g grower) attr() string {
	name := g.one("href", "href", "src", "src", "alt", "style", "style", "title", "dir", "lang", "width", "height", "start", "value", "rel", "onclick", "onerror", "srcset", "class", "id", "background", "target", "SRC", "xlink:href", "data-x", "/", "\"", "=")
	value := g.value()
	switch g.Intn(6) {
	case 0:
		return name + "=" + value
	case 1:
		return name + "='" + value + "'"
	case 2:
		return name
	}
	return name + "=\"" + value + "\""
}

func (g grower) tag() string {
	var out strings.Builder
	if g.Intn(4) == 0 {
		// so there are some that stay, too
		return g.one("<a href="+g.one("http://h/p", "HTTPS://h", "'mailto:a@b'"), "<img src="+g.one("https://h/p", "cid:i", "cid:k", "http://h", "att:1"), "<b style='color:red'") + " " + g.attr() + ">"
	}
	out.WriteString("<" + g.name())
	for range g.Intn(4) {
		out.WriteString(g.one(" ", " ", "\n", "/") + g.attr())
	}
	return out.String() + g.one(">", ">", ">", "/>", " >")
}

// document makes a text of tags and signs, of at most so many pieces.
func (g grower) document(size int) string {
	var out strings.Builder
	for range g.Intn(size + 1) {
		switch g.Intn(8) {
		case 0, 1:
			out.WriteString(g.one("a", "b c", "&lt;", "&", "<", "\xff", "&nbsp;", "\u00e9", ">", "<!--", "-->", "&#13;", "\"", "</", "<b", "\n", "<!", "<?x", "&#0;", "]]>", "</script>"))
		case 2, 3:
			out.WriteString("</" + g.name() + ">")
		default:
			out.WriteString(g.tag())
		}
	}
	return out.String()
}

// plain makes a text of lines.
func (g grower) plain() string {
	var out strings.Builder
	for range g.Intn(20) {
		out.WriteString(strings.Repeat(g.one(">", "> ", ">"), g.Intn(25)*g.Intn(2)) + g.one("a", "", "", "<b>", "&amp;", "\xff", "=", "\u00e9", "http://h") + g.one("\n", "\r\n", "\r"))
	}
	return out.String()
}

// part makes one with its header; in it lie others at most so deep.
func (g grower) part(most int) string {
	end := g.one("\n", "\r\n")
	if most > 0 && g.Intn(2) == 0 {
		boundary := "b" + strconv.Itoa(g.Intn(1000))
		s := "Content-Type: multipart/" + g.one("mixed", "alternative", "related") + "; boundary=" + boundary + end + end
		for range g.Intn(4) {
			s += "--" + boundary + end + g.part(most-1) + end
		}
		return s + g.one("--"+boundary+"--"+end, "")
	}
	kind := g.one("text/html", "text/html", "text/html", "text/html", "text/plain", "text/plain", "image/png", "image/gif", "text/css", "message/rfc822", "x", "")
	s := "Content-Type: " + kind + g.one("", "", "; charset=utf-8", "; charset=utf-8", "; charset=\"latin1\"", "; charset=utf-16le", "; charset=x", "; name=n") + end
	body := g.document(30)
	if kind == "text/plain" {
		body = g.plain()
	}
	switch g.Intn(6) {
	case 0:
		s, body = s+"Content-Transfer-Encoding: base64"+end, b64.Wrap(body, 60)
	case 1:
		s, body = s+"Content-Transfer-Encoding: quoted-printable"+end, qp.Encode(body)
	case 2:
		s += "Content-Transfer-Encoding: " + g.one("8bit", "base64", "QUOTED-printable", "x") + end
	}
	if g.Intn(3) == 0 {
		s += "Content-ID: <" + g.one("i", "j", "k") + ">" + end
	}
	if g.Intn(8) == 0 {
		s += "Content-Disposition: " + g.one("attachment", "inline", "attachment; filename=f") + end
	}
	return s + end + body
}

// related makes a document, with pictures that come with it.
func (g grower) related() string {
	s := "Content-Type: multipart/related; boundary=r\n\n--r\nContent-Type: text/html\n\n" + g.document(30)
	for _, id := range []string{"i", "j", "k"} {
		s += "\n--r\nContent-Type: " + g.one("image/png", "image/gif", "text/css") + "\nContent-ID: <" + id + ">\n\n"
	}
	return s
}

// message makes one; some are damaged.
func (g grower) message() string {
	body := g.related()
	if g.Intn(4) > 0 {
		body = g.part(g.Intn(4))
	}
	s := g.one("", "Subject: =?utf-8?Q?=C3=A9?= =?x?\n", "From: a <a@b>, (\nTo: \"\n", "Date: Fri, 2 Jan 1970 00:00:00 +0000\n", "garbage\n") + body
	if g.Intn(4) == 0 {
		b := []byte(s)
		for range g.Intn(5) {
			b[g.Intn(len(b))] = "<>\n=\"-\x00\xff;:"[g.Intn(10)]
		}
		s = string(b[g.Intn(2)*g.Intn(len(b)):])
	}
	return s
}

var (
	tagPattern   = regexp.MustCompile(`<(/?)([a-z0-9]+)((?: [a-z]+="[^"<>]*")*)>`)
	attrPattern  = regexp.MustCompile(` ([a-z]+)="([^"]*)"`)
	signPattern  = regexp.MustCompile(`&(amp|lt|gt|quot|nbsp);`)
	linkPattern  = regexp.MustCompile(`^(?i:https?://[^/?#\\]|mailto:)`)
	stylePattern = regexp.MustCompile(`^[a-z-]+: [A-Za-z0-9 #.%,+!-]{1,100}(; [a-z-]+: [A-Za-z0-9 #.%,+!-]{1,100})*$`)
	// patterns are what values of other attributes are.
	patterns = map[string]*regexp.Regexp{"dir": regexp.MustCompile(`^(ltr|rtl|auto)$`), "lang": regexp.MustCompile(`^[A-Za-z0-9-]{1,20}$`), "title": regexp.MustCompile(``), "alt": regexp.MustCompile(``), "width": numberPattern, "height": numberPattern, "start": numberPattern, "value": numberPattern}

	numberPattern = regexp.MustCompile(`^[0-9]{1,4}$`)
)

// stay are the elements that there may be, with the attributes of theirs alone.
var stay = map[string]string{"a": "href rel", "img": "src alt width height", "ol": "start", "li": "value"}

func init() {
	for _, name := range strings.Fields("b blockquote br code dd div dl dt em h1 h2 h3 h4 h5 h6 hr i p pre s small span strong sub sup u ul") {
		stay[name] = ""
	}
}

// wrongIn tells what is wrong with what is shown; nothing, if nothing is. It knows nothing of the program's own rules.
func wrongIn(p api.Policy, files []api.Attached, s string) string {
	rest := tagPattern.ReplaceAllString(s, "")
	if strings.ContainsAny(signPattern.ReplaceAllString(rest, ""), "<>&") {
		return "signs"
	}
	for _, tag := range tagPattern.FindAllStringSubmatch(s, -1) {
		own, known := stay[tag[2]]
		if !known || tag[1] != "" && tag[3] != "" {
			return tag[0]
		}
		names := map[string]bool{}
		for _, a := range attrPattern.FindAllStringSubmatch(tag[3], -1) {
			may := slices.Contains(strings.Fields("title dir lang style "+own), a[1])
			if !may || names[a[1]] || !mayHave(p, files, a[1], html.UnescapeString(a[2])) {
				return tag[0]
			}
			names[a[1]] = true
		}
		if names["rel"] != names["href"] || tag[2] == "img" && !names["src"] {
			return tag[0]
		}
	}
	return ""
}

// mayHave tells whether an attribute may have a value.
func mayHave(p api.Policy, files []api.Attached, name, value string) bool {
	switch name {
	case "href":
		return linkPattern.MatchString(value) && !strings.ContainsAny(value, "\t\r\n")
	case "rel":
		return value == "noopener noreferrer"
	case "src":
		if strings.HasPrefix(strings.ToLower(value), "https://") {
			return p.Remote
		}
		at, err := strconv.Atoi(strings.TrimPrefix(value, "att:"))
		return err == nil && value == "att:"+strconv.Itoa(at) && at < len(files) && strings.HasPrefix(files[at].Kind, "image/")
	case "style":
		return p.Styles && stylePattern.MatchString(value)
	}
	return patterns[name].MatchString(value)
}

// holdAll tells whether all that is promised of what is shown is so.
func holdAll(t *testing.T, p api.Policy, s string) clean.Message {
	t.Helper()
	m := clean.Clean(s, p)
	if wrong := wrongIn(p, m.Files, m.Html); wrong != "" {
		t.Errorf("P1, P3: %.300q, %v shows %.300q: %s", s, p, m.Html, wrong)
	}
	holdStays(t, p, m)
	l := tree.Build(m.Html)
	if len(m.Html) > 30*len(s)+200 || tree.Count(l) > 5000 || tree.Depth(l) > 31 || len(m.Files) > 100 || parts.Count(parts.Parse(s)) > 100 || parts.Depth(parts.Parse(s)) > 30 {
		t.Errorf("P5: %d bytes, %.300q, show %d, of %d nodes that are %d deep", len(s), s, len(m.Html), tree.Count(l), tree.Depth(l))
	}
	return m
}

// holdStays tells whether what is shown is itself, read, written, and made clean.
func holdStays(t *testing.T, p api.Policy, m clean.Message) {
	t.Helper()
	if !settle.Settled(p, m.Files, m.Html) {
		t.Errorf("P24.4: %.300q is not settled", m.Html)
	}
	s := m.Html
	for range 3 {
		s = ser.Write(tree.Build(s))
	}
	washed := ser.Write(wash.Clean(p, m.Files, tree.Build(m.Html)))
	if again := clean.Html(m.Html, p, m.Files); s != m.Html || washed != m.Html || again != m.Html {
		t.Errorf("P2, P24.4: %.300q, %v becomes %.300q, washed %.300q, clean %.300q", m.Html, p, s, washed, again)
	}
	if loaded := wash.Blocked(p, tree.Build(m.Html)); loaded != 0 {
		t.Errorf("P3, P24.4: %.300q has pictures from elsewhere", m.Html)
	}
}

func TestWhatMayNotBe(t *testing.T) { // P1, P3
	// what finds nothing wrong would hold the program to nothing
	files := []api.Attached{{Kind: "image/png"}, {Kind: "text/css"}}
	for _, s := range []string{"<", "a>b", "&", "&#65;", "<script>", "<B>", "<table>", "<b x=\"y\">", "<b onclick=\"x\">", "<b href=\"http://h\">", "</b title=\"x\">", "<b title=\"x\" title=\"x\">", "<b title=x>", "<a href=\"http://h\">", "<a rel=\"noopener noreferrer\">", "<a href=\"javascript:x\" rel=\"noopener noreferrer\">", "<a href=\"x\" rel=\"noopener noreferrer\">", "<a href=\"http:///x\" rel=\"noopener noreferrer\">", "<a href=\"http://h\" rel=\"x\">", "<img>", "<img src=\"http://h\">", "<img src=\"https://h\">", "<img src=\"att:1\">", "<img src=\"att:2\">", "<img src=\"att:+0\">", "<img src=\"cid:x\">", "<b style=\"color: red\">", "<b dir=\"x\">", "<b lang=\"\">", "<ol start=\"x\">"} {
		if wrongIn(api.Policy{}, files, s) == "" {
			t.Errorf("P1, P3: nothing is wrong with %q", s)
		}
	}
	all := api.Policy{Remote: true, Styles: true}
	for _, s := range []string{"<b style=\"background: url(x)\">", "<b style=\"color: red;\">", "<b style=\"x: y/z\">", "<img src=\"http://h\">"} {
		if wrongIn(all, files, s) == "" {
			t.Errorf("P1, P3: nothing is wrong with %q", s)
		}
	}
	for _, s := range []string{"", "a&lt;\u00e9", "<b title=\"&lt;x\">y</b><br>", "<a href=\"HTTP://h\" rel=\"noopener noreferrer\">x</a>", "<img src=\"att:0\" alt=\"\"><img src=\"https://h\">", "<b style=\"color: red; width: 1px\">"} {
		if wrong := wrongIn(all, files, s); wrong != "" {
			t.Errorf("P1, P3: %s is wrong in %q", wrong, s)
		}
	}
}

func TestWhole(t *testing.T) { // P1, P2, P3, P5, P24.4
	g := newGrower(244)
	counts := map[string]int{}
	for range 12000 {
		m := holdAll(t, g.policy(), g.message())
		for _, s := range []string{"<img src=\"att:", "<img src=\"https:", "<a href=\"http", "<a href=\"mailto:", " style=\"", "[", "<blockquote>", "<div title=\"quoted\">", noText} {
			if strings.Contains(m.Html, s) {
				counts[s]++
			}
		}
		if t.Failed() {
			return
		}
	}
	for s, n := range counts {
		if n < 20 {
			t.Errorf("P1: only %d messages show %q", n, s)
		}
	}
	if len(counts) != 9 {
		t.Errorf("P1: what is shown is of few sorts: %v", counts)
	}
}

func TestBounds(t *testing.T) { // P5, P1, P2
	heads := []string{"\n", "Content-Type: text/html\n\n", "Content-Type: text/html; charset=utf-16le\n\n", "Subject: ", "From: "}
	for _, one := range []string{"a", "<b>", "<p>x", "<div>", "<ul><li>", "</p>", "> ", ">", ">\n\n", strings.Repeat(">", 20) + "\n\n", strings.Repeat(">", 25) + "a\n", "\n", "\r", "&", "<", "\xff", "\xa0", "\x80", "\"", "<img src=http://h>", "<img src=x alt='\xa0\xa0\xa0'>", "<a href=mailto:>", "<a href=http://h title=\"&&\">x", "<b title='\"\"\"\"'>", "<table><tr><td><p>", "<b style='color:red;;;;'>", "<title>", "<!--", "<x a=", "=?utf-8?Q?a?= ", "a<br>", "&#xa0;", "<i>\xa0"} {
		for n, head := range heads {
			for i, size := range []int{40, 200, 3000} {
				holdAll(t, policies()[(n+3*i)%8], head+strings.Repeat(one, size/len(one)))
			}
			if n > 1 {
				continue
			}
			long := head + strings.Repeat(one, 199000/len(one))
			p := api.Policy{Quotes: true, Styles: true}
			if m := clean.Clean(long, p); len(m.Html) > 30*len(long)+200 || !settle.Settled(p, m.Files, m.Html) {
				t.Errorf("P5, P24.4: many of %q behind %q show %d bytes, %.200q", one, head, len(m.Html), m.Html)
			}
		}
	}
	for size := range 30 {
		holdAll(t, api.Policy{Quotes: true}, "a\n"+strings.Repeat(">", size))
		holdAll(t, api.Policy{}, strings.Repeat("\n", size)+strings.Repeat(">", size))
		holdAll(t, api.Policy{}, strings.Repeat("Content-Type: message/rfc822\n\n", size*3))
	}
	deep, many := "", "Content-Type: multipart/mixed; boundary=b\n\n"
	for n := range 60 {
		b := "b" + strconv.Itoa(n) + "x"
		deep += "Content-Type: multipart/alternative; boundary=" + b + "\n\n--" + b + "\n"
		many += strings.Repeat("--b\nContent-Type: image/png\n\nx\n", 5)
	}
	holdAll(t, api.Policy{}, deep+"\nx")
	if m := holdAll(t, api.Policy{}, many); len(m.Files) != 99 {
		t.Errorf("P5: %d files", len(m.Files))
	}
}

// letters makes a text that a line of a header may have.
func (g grower) letters() string {
	var out strings.Builder
	for range g.Intn(12) {
		out.WriteString(g.one("a", "B", "7", " ", "\"", "\\", "(", ")", "<", ">", ",", ";", ":", "@", "=?", "?=", "_", "\u00e9", "\u20ac", "\U0001f600", "\u00a0", "%", "'", "*", "&", "="))
	}
	return strings.Trim(out.String(), " ")
}

func (g grower) boxes() []api.Box {
	var out []api.Box
	for range g.Intn(4) {
		out = append(out, api.Box{Name: g.letters(), Mail: g.one("a@b", "x.y+z@h.example", "'@'")})
	}
	return out
}

// written is what the rules of mail write; it is told by its first result.
func written(t *testing.T, s string, e api.Errno) string {
	t.Helper()
	if e != api.OK {
		t.Fatalf("P4: not written: %d", e)
	}
	return s
}

// file makes one, and the message's part that it comes in.
func (g grower) file(t *testing.T) (api.Attached, string) {
	t.Helper()
	b := make([]byte, g.Intn(100))
	g.Read(b)
	f := api.Attached{Name: g.letters() + "x", Kind: g.one("image/png", "application/pdf", "text/plain"), Id: g.one("", "i@h", "j"), Bytes: string(b)}
	params := []api.Param{{Name: "filename", Value: f.Name}}
	s, e := param.Write("attachment", params)
	l := fields("Content-Type", f.Kind, "Content-Disposition", written(t, s, e), "Content-Transfer-Encoding", "base64")
	if g.Intn(2) == 0 {
		params[0].Name = "name"
		s, e = param.Write(f.Kind, params)
		l = fields("Content-Type", written(t, s, e), "Content-Transfer-Encoding", "base64")
	}
	if f.Id != "" {
		l = append(l, fields("Content-ID", "<"+f.Id+">")...)
	}
	s, e = lines.Write(l, b64.Wrap(f.Bytes, 76))
	return f, written(t, s, e)
}

// text makes a plain text whose lines are no quotes, and the document that it is shown as.
func (g grower) text() (string, string) {
	var row []string
	for range g.Intn(6) {
		row = append(row, strings.TrimLeft(g.letters(), ">"))
	}
	row = append(row, g.one("a", "\u00e9 "))
	s := strings.Join(row, "\n")
	shown := strings.NewReplacer("&", "&amp;", "<", "&lt;", ">", "&gt;", "\u00a0", "&nbsp;", "\n", "<br>").Replace(s)
	return s, shown
}

func TestWrittenMessagesAreTold(t *testing.T) { // P4
	g := newGrower(245)
	for range 4000 {
		want := clean.Message{Subject: g.letters(), From: g.boxes(), To: g.boxes(), Date: g.Intn(1 << 33), Dated: true}
		from, e := addr.Write(want.From)
		from = written(t, from, e)
		to, e := addr.Write(want.To)
		to = written(t, to, e)
		date, e := stamp.Write(want.Date)
		l := fields("Subject", word.Encode(want.Subject), "From", from, "To", to, "Date", written(t, date, e), "MIME-Version", "1.0", "Content-Type", "multipart/mixed; boundary=\"=_b\"")
		text, shown := g.text()
		want.Html = shown
		kind := "text/plain; charset=utf-8"
		if g.Intn(2) == 0 {
			kind, text = "text/html; charset=utf-8", shown
		}
		one, e := lines.Write(fields("Content-Type", kind, "Content-Transfer-Encoding", "quoted-printable"), qp.Encode(text))
		body := "--=_b\r\n" + written(t, one, e)
		for range g.Intn(4) {
			f, s := g.file(t)
			want.Files = append(want.Files, f)
			body += "\r\n--=_b\r\n" + s
		}
		s, e := lines.Write(l, body+"\r\n--=_b--\r\n")
		s = written(t, s, e)
		for _, p := range []api.Policy{{}, {Remote: true, Styles: true, Quotes: true}} {
			if m := clean.Clean(s, p); !reflect.DeepEqual(told(m), told(want)) {
				t.Fatalf("P4: %q is told as %+v, not %+v", s, m, want)
			}
		}
	}
}

func TestComposedMessagesAreTold(t *testing.T) { // P4, P24.3, P24.4
	g := newGrower(246)
	for range 4000 {
		want := clean.Message{Subject: g.letters(), From: g.boxes(), To: g.boxes(), Date: -g.Intn(1 << 31), Dated: true}
		from, e := addr.Write(want.From)
		from = written(t, from, e)
		to, e := addr.Write(want.To)
		to = written(t, to, e)
		date, e := stamp.Write(want.Date)
		_, want.Html = g.text()
		s, e := clean.Compose(fields("To", to, "From", from, "Date", written(t, date, e), "Subject", word.Encode(want.Subject)), want.Html)
		s = written(t, s, e)
		if m := clean.Clean(s, api.Policy{}); !reflect.DeepEqual(told(m), told(want)) {
			t.Fatalf("P4: %q is told as %+v, not %+v", s, m, want)
		}
	}
}

func TestPicturesOfTheMessage(t *testing.T) { // P3, P4
	s := message(strings.Join([]string{"--b", "Content-Type: text/html", "", "<img src=cid:a@h><img src=cid:none><img src=cid:c><a href=https://h>x</a>", "--b", "Content-Type: image/png", "Content-ID: <a@h>", "", "1", "--b", "Content-Type: text/css", "Content-ID: <c>", "", "2", "--b--"}, "\r\n"), "Content-Type: multipart/related; boundary=b")
	for _, p := range policies() {
		m := holdAll(t, p, s)
		if m.Html != "<img src=\"att:0\"><a href=\"https://h\" rel=\"noopener noreferrer\">x</a>" || len(m.Files) != 2 {
			t.Errorf("P3: %q", m.Html)
		}
		if at, is := attach.Find(m.Files, "a@h"); at != 0 || !is || m.Files[at].Bytes != "1" {
			t.Errorf("P4: %q", m.Files)
		}
	}
}

package clean_test

import (
	"reflect"
	"slices"
	"strings"
	"testing"

	"muslin/api"
	"muslin/clean"
	"muslin/fold"
	"muslin/parts"
	"muslin/pick"
	"muslin/qp"
	"muslin/settle"
	"muslin/tree"
	"muslin/wash"
)

const (
	tooLong = "This message is too long."
	noText  = "This message has no text."
)

// policies are all that there are.
func policies() []api.Policy {
	var out []api.Policy
	for n := range 8 {
		out = append(out, api.Policy{Remote: n&1 > 0, Styles: n&2 > 0, Quotes: n&4 > 0})
	}
	return out
}

// holdHtml tells what a document is made clean to.
func holdHtml(t *testing.T, p api.Policy, files []api.Attached, s, want string) {
	t.Helper()
	if u := clean.Html(s, p, files); u != want {
		t.Errorf("P24.1: Html(%.300q, %v) is %.300q, not %.300q", s, p, u, want)
	}
}

func TestHtml(t *testing.T) { // P24.1
	files := []api.Attached{{Kind: "text/css", Id: "x"}, {Kind: "image/png", Id: "y"}}
	for _, p := range policies() {
		// the examples of the whole
		holdHtml(t, p, files, "", "")
		holdHtml(t, p, files, "a<script>x</script>b<style>y</style><iframe>z", "ab")
		holdHtml(t, p, files, "<b onclick=x>y</b>", "<b>y</b>")
		holdHtml(t, p, files, "<img src=cid:y><img src=cid:x><img src=cid:z>", "<img src=\"att:1\">")
		holdHtml(t, p, nil, "<img src=cid:y>", "")
		holdHtml(t, p, files, "<img src=http://h alt=x><img src=http://h><img src=/x>", "[x][picture][picture]")
		holdHtml(t, p, files, "a<img src=https://h width=1><img src=cid:y height=0>b", "ab")
		holdHtml(t, p, files, "<a href=javascript:x>y</a><a href=\" java\tscript:x\">z", "<a>y</a><a>z</a>")
		holdHtml(t, p, files, "<b style='background: url(x)'>y", "<b>y</b>")
		holdHtml(t, p, files, "<p>a<p>b", "<p>a</p><p>b</p>")
		holdHtml(t, p, files, "\xff&lt;&bogus;", "\ufffd&lt;&amp;bogus;")
		holdHtml(t, p, files, "<p>a<table><tr><td><p>b", "<p>a</p><p>b</p>")
		// it has no text to be quoted aside: what is folded is a message
		holdHtml(t, p, files, "a<blockquote>b", "a<blockquote>b</blockquote>")
		holdHtml(t, p, files, strings.Repeat("<div>", 31)+"a", "a")
		remote, styled := "[picture]", "<b>x</b>"
		if p.Remote {
			remote = "<img src=\"https://h\">"
		}
		if p.Styles {
			styled = "<b style=\"color: red\">x</b>"
		}
		holdHtml(t, p, files, "<img src=https://h>", remote)
		holdHtml(t, p, files, "<b style=COLOR:red>x", styled)
	}
	// no document is too long
	long := strings.Repeat("a", 300000)
	holdHtml(t, api.Policy{}, nil, "<b>"+long, "<b>"+long+"</b>")
}

func TestHtmlIsSettled(t *testing.T) { // P24.1
	g := newGrower(241)
	for range 10000 {
		p, files, s := g.policy(), g.files(), g.document(30)
		want, _ := settle.Settle(p, files, tree.Build(s))
		holdHtml(t, p, files, s, want)
		holdHtml(t, p, files, want, want)
	}
}

// message is one of a header's lines and a body.
func message(body string, header ...string) string {
	return strings.Join(append(header, "", body), "\r\n")
}

func TestHeader(t *testing.T) { // P24.2
	for _, p := range policies() {
		m := clean.Clean(message("x", "SUBJECT: =?latin1?Q?caf=E9?= <b>", "Subject: no", "from: \"A, B\" <a@b>, c@d (C)", "From: x@y", "to: e@f; nobody, <g@h>", "TO: x@y", "date: Fri, 2 Jan 1970 01:00:00 +0100", "Date: x", "Cc: z@z"), p)
		want := clean.Message{Subject: "caf\u00e9 <b>", From: []api.Box{{Name: "A, B", Mail: "a@b"}, {Name: "C", Mail: "c@d"}}, To: []api.Box{{Mail: "e@f"}, {Mail: "g@h"}}, Date: 86400, Dated: true, Html: "x"}
		if !reflect.DeepEqual(m, want) {
			t.Errorf("P24.2: %v, not %v", m, want)
		}
		for _, s := range []string{"\r\nx", "\nx", message("x", "A: b", "Subjects: x", "X-Subject: x", "X-From: a@b", "Reply-To: a@b", "Dates: 2 Jan 1970 00:00"), message("x", "Subject:", "From: ", "To: nobody", "Date: never")} {
			if m := clean.Clean(s, p); m.Subject != "" || len(m.From) > 0 || len(m.To) > 0 || m.Date != 0 || m.Dated || m.Html != "x" {
				t.Errorf("P24.2: %q: %v", s, m)
			}
		}
	}
	for date, want := range map[string]int{"1 Jan 1970 00:00": 0, "Wed, 31 Dec 1969 23:59:59 GMT": -1, "1 Jan 1900 00:00:00 +0000": -2208988800, "31 Dec 9999 23:59:59 -0100": 253402304399, "Mon, 1 Jan 01 00:00 EST (x)": 978325200} {
		if m := clean.Clean(message("", "Date: "+date), api.Policy{}); m.Date != want || !m.Dated {
			t.Errorf("P24.2: %q: %d, %v", date, m.Date, m.Dated)
		}
	}
	for _, date := range []string{"", "x", "30 Feb 1970 00:00", "1 Jan 1970", "1 Jan 1970 24:00", "1 Jan 1970 00:00 +0000 x", "1970-01-01"} {
		if m := clean.Clean(message("", "Date: "+date, "Date: 1 Jan 1970 01:00"), api.Policy{}); m.Date != 0 || m.Dated {
			t.Errorf("P24.2: %q: %d, %v", date, m.Date, m.Dated)
		}
	}
	// those of the message itself alone
	s := message("--b\r\nSubject: x\r\nFrom: a@b\r\nTo: a@b\r\nDate: 1 Jan 1970 00:01\r\n\r\ny\r\n--b--", "Content-Type: multipart/mixed; boundary=b")
	if m := clean.Clean(s, api.Policy{}); !reflect.DeepEqual(told(m), told(clean.Message{Html: "y"})) {
		t.Errorf("P24.2: %v", m)
	}
}

// told is a message in which no list that is empty is nil, or none is.
func told(m clean.Message) clean.Message {
	m.From, m.To, m.Files = append([]api.Box{}, m.From...), append([]api.Box{}, m.To...), append([]api.Attached{}, m.Files...)
	return m
}

// holdShown tells what a message shows, and how many of its pictures are blocked.
func holdShown(t *testing.T, p api.Policy, s, want string, blocked int) {
	t.Helper()
	if m := clean.Clean(s, p); m.Html != want || m.Blocked != blocked {
		t.Errorf("P24.2: Clean(%.300q, %v) shows %.300q, %d blocked, not %.300q, %d", s, p, m.Html, m.Blocked, want, blocked)
	}
}

func TestShown(t *testing.T) { // P24.2
	const html = "Content-Type: text/html; charset=utf-8"
	for _, p := range policies() {
		holdShown(t, p, "", "", 0)
		holdShown(t, p, "\n", "", 0)
		holdShown(t, p, "Subject: x", "", 0)
		holdShown(t, p, message("a\r\n<b>\r\n\r\n\u00e9"), "a<br>&lt;b&gt;<br><br>\u00c3\u00a9", 0)
		holdShown(t, p, message("<p>a<p>b<script>x</script>\r\n\u00e9", html), "<p>a</p><p>b\n\u00e9</p>", 0)
		holdShown(t, p, message("<b>x=3D=\r\n&amp;", html, "Content-Transfer-Encoding: quoted-printable"), "<b>x=&amp;</b>", 0)
		holdShown(t, p, message("PGI+eA==", html, "Content-Transfer-Encoding: base64"), "<b>x</b>", 0)
		holdShown(t, p, message("<img src=http://h/p alt=q><img src=//h><img src=http://h width=1>", html), "[q][picture]", 2)
		holdShown(t, p, message("<script><img src=http://h></script><font><img src=x></font><svg><img src=y></svg>", html), "[picture]", 1)
		holdShown(t, p, message("<img src=http://h>"), "&lt;img src=http://h&gt;", 0)
		remote, count := "[picture]", 1
		if p.Remote {
			remote, count = "<img src=\"https://h\">", 0
		}
		holdShown(t, p, message("<img src=https://h>", html), remote, count)
		// nothing is shown
		for _, s := range []string{message("x", "Content-Type: image/png"), message("x", "Content-Disposition: attachment"), message("<b>x", "Content-Type: text/html; name=x.html"), message("\r\nx", "Content-Type: message/rfc822"), message("x", "Content-Type: multipart/mixed"), message("--b\r\nContent-Type: text/html; name=x\r\n\r\n<img src=http://h>\r\n--b--", "Content-Type: multipart/mixed; boundary=b")} {
			holdShown(t, p, s, noText, 0)
		}
	}
	// whatever stands behind it, it is the alternative's last text
	s := message("--b\n\na\n--b\n"+html+"\n\n<i>b\n--b\nContent-Type: image/png\n\nc\n--b--\n", "Content-Type: multipart/alternative; boundary=b")
	holdShown(t, api.Policy{}, s, "<i>b</i>", 0)
	holdShown(t, api.Policy{}, strings.Replace(s, "alternative", "mixed", 1), "a", 0)
}

func TestQuotes(t *testing.T) { // P24.2
	const html = "Content-Type: text/html"
	for body, want := range map[string][2]string{
		"a\r\n> b":             {"a<blockquote>b</blockquote>", "a<div title=\"quoted\"><blockquote>b</blockquote></div>"},
		"a\r\n> b\r\n\r\n>> c": {"a<blockquote>b</blockquote><blockquote><blockquote>c</blockquote></blockquote>", "a<div title=\"quoted\"><blockquote>b</blockquote><blockquote><blockquote>c</blockquote></blockquote></div>"},
		"> b":                  {"<blockquote>b</blockquote>", "<blockquote>b</blockquote>"},
		"a\r\n> b\r\nc":        {"a<blockquote>b</blockquote>c", "a<blockquote>b</blockquote>c"},
	} {
		for _, p := range policies() {
			at := 0
			if p.Quotes {
				at = 1
			}
			holdShown(t, p, message(body), want[at], 0)
		}
	}
	// it is folded ahead of being washed, and what is blocked is counted as well
	folded := api.Policy{Quotes: true}
	holdShown(t, folded, message("a<script>x</script><blockquote><img src=http://h></blockquote><br>", html), "a<div title=\"quoted\"><blockquote>[picture]</blockquote><br></div>", 1)
	holdShown(t, folded, message("<script>x</script><blockquote>b</blockquote>", html), "<div title=\"quoted\"><blockquote>b</blockquote></div>", 0)
	holdShown(t, folded, message("a<blockquote>b</blockquote><script></script>", html), "a<blockquote>b</blockquote>", 0)
	holdShown(t, folded, message("a<font><blockquote>b</blockquote></font>", html), "a<blockquote>b</blockquote>", 0)
	// a fold that makes it too deep
	deep := "a" + strings.Repeat("<blockquote>", 30) + "b" + strings.Repeat("</blockquote>", 30)
	holdShown(t, api.Policy{}, message(deep, html), deep, 0)
	holdShown(t, folded, message(deep, html), "ab", 0)
}

func TestFiles(t *testing.T) { // P24.2
	s := message(strings.Join([]string{"", "Content-Type: text/html", "", "<img src=cid:i><img src=cid:j><img src=CID:k><img src=att:0><img src=att:2><img src=att:02>", "--b", "Content-Type: image/png; name=n.png", "Content-ID: <i>", "Content-Transfer-Encoding: base64", "", "SGk=", "--b", "Content-Type: text/plain; charset=latin1", "Content-ID: j", "Content-Disposition: attachment; filename*=utf-8''%C3%A9", "", "\xe9\r", "--b", "Content-Type: image/gif", "Content-ID: <k>", "", "x", "--b--"}, "\r\n"), "Content-Type: multipart/related; boundary=b")
	s = strings.Replace(s, "\r\n\r\n\r\nContent", "\r\n\r\n--b\r\nContent", 1)
	want := []api.Attached{{Name: "n.png", Kind: "image/png", Id: "i", Bytes: "Hi"}, {Name: "\u00e9", Kind: "text/plain", Id: "j", Bytes: "\xe9\r"}, {Kind: "image/gif", Id: "k", Bytes: "x"}}
	for _, p := range policies() {
		m := clean.Clean(s, p)
		if !slices.Equal(m.Files, want) {
			t.Errorf("P24.2: files %q, not %q", m.Files, want)
		}
		holdShown(t, p, s, "<img src=\"att:0\"><img src=\"att:2\"><img src=\"att:0\"><img src=\"att:2\">", 0)
		// a message that is a file itself
		m = clean.Clean(message("SGk=", "Content-Type: image/png; name=x", "Content-ID: <y>", "Content-Transfer-Encoding: base64", "Subject: z"), p)
		if !reflect.DeepEqual(told(m), told(clean.Message{Subject: "z", Html: noText, Files: []api.Attached{{Name: "x", Kind: "image/png", Id: "y", Bytes: "Hi"}}})) {
			t.Errorf("P24.2: %v", m)
		}
	}
}

func TestTooLong(t *testing.T) { // P24.2, P1
	notice := told(clean.Message{Html: tooLong})
	for _, head := range []string{"", "Subject: x\r\nFrom: a@b\r\nTo: c@d\r\nDate: 1 Jan 1970 00:01\r\n\r\n", "Content-Type: text/html\n\n<img src=http://h>", "Content-Type: image/png\n\n"} {
		for _, p := range policies() {
			for size, is := range map[int]bool{199999: false, 200000: false, 200001: true, 200002: true, 400000: true, 1 << 20: true} {
				m := clean.Clean(head+strings.Repeat("x", size-len(head)), p)
				if reflect.DeepEqual(told(m), notice) != is || (m.Html == tooLong) != is {
					t.Errorf("P24.2: %d bytes behind %q: %.100q", size, head, m.Html)
				}
			}
		}
	}
}

func TestAsTheChapterSays(t *testing.T) { // P24.2
	g := newGrower(242)
	count := 0
	for range 10000 {
		p, s := g.policy(), g.message()
		m := clean.Clean(s, p)
		want, blocked := settle.Notice(noText), 0
		if body, is := pick.Body(parts.Parse(s)); is {
			l := pick.Tree(body)
			blocked = wash.Blocked(p, l)
			if p.Quotes {
				l = fold.Fold(l)
			}
			want, _ = settle.Settle(p, m.Files, l)
			count++
		}
		holdShown(t, p, s, want, blocked)
	}
	if count < 3000 || count > 9900 {
		t.Errorf("P24.2: %d have a text", count)
	}
}

// holdError tells why nothing is composed.
func holdError(t *testing.T, l []api.Field, want api.Errno) {
	t.Helper()
	for _, html := range []string{"", "<b>x</b>"} {
		if s, e := clean.Compose(l, html); s != "" || e != want {
			t.Errorf("P24.3: Compose of %d fields, %.200q: %.200q, %d, not %d", len(l), l, s, e, want)
		}
	}
}

// fields makes some of names and values by turns.
func fields(row ...string) []api.Field {
	var out []api.Field
	for i := 0; i < len(row); i += 2 {
		out = append(out, api.Field{Name: row[i], Value: row[i+1]})
	}
	return out
}

func TestCompose(t *testing.T) { // P24.3
	const own = "MIME-Version: 1.0\r\nContent-Type: text/html; charset=utf-8\r\nContent-Transfer-Encoding: quoted-printable\r\n\r\n"
	for _, html := range []string{"", "<b>x</b>", "<b>\u00e9", "a=b ", "\r\n\t", "\xff", strings.Repeat("<p>x y</p>", 5000)} {
		for header, l := range map[string][]api.Field{
			"":                             nil,
			"Subject: x\r\n":               fields("Subject", "x"),
			"A: \r\nb: c d\r\nA: \xff\r\n": fields("A", "", "b", "c d", "A", "\xff"),
			"MIME-Version: 2\r\nContent-ID: <x>\r\nContent: y\r\nX-Content-Type: z\r\n":        fields("MIME-Version", "2", "Content-ID", "<x>", "Content", "y", "X-Content-Type", "z"),
			"Content-Types: x\r\nContent_Type: y\r\nontent-Type: z\r\nContent-Typ: \u00e9\r\n": fields("Content-Types", "x", "Content_Type", "y", "ontent-Type", "z", "Content-Typ", "\u00e9"),
		} {
			s, e := clean.Compose(l, html)
			if want := header + own + qp.Encode(html); s != want || e != api.OK {
				t.Errorf("P24.3: Compose(%q, %.100q) is %.300q, %d, not %.300q", l, html, s, e, want)
			}
		}
	}
}

func TestComposeErrors(t *testing.T) { // P24.3, R2
	var errors [][]api.Field
	for _, name := range []string{"Content-Type", "Content-Transfer-Encoding", "Content-Disposition"} {
		for _, one := range []string{name, strings.ToLower(name), strings.ToUpper(name), "c" + name[1:]} {
			errors = append(errors, fields(one, "x"), fields(one, ""), fields("A", "b", one, "x", "C", "d"), fields(one, "x", one, "x"))
		}
	}
	for _, name := range []string{"", "a b", "a:", ":", "\u00e9", "a\x7f", "\x1f", " ", "Content-Type "} {
		errors = append(errors, fields(name, "x"), fields("A", "b", name, "x"))
	}
	for _, value := range []string{"\n", "\r", "a\r\n b", " ", "a ", "\ta", "a\nContent-Type: x"} {
		errors = append(errors, fields("A", value), fields("A", "b", "C", value))
	}
	for _, l := range errors {
		holdError(t, l, api.ErrArg)
	}
	// with those that are put behind them, there are at most 500
	row := slices.Repeat(fields("A", "b"), 497)
	if s, e := clean.Compose(row, "x"); e != api.OK || strings.Count(s, "\r\n") != 501 {
		t.Errorf("P24.3: of 497 fields: %.100q, %d", s, e)
	}
	for _, n := range []int{498, 499, 500, 501, 1000} {
		row := slices.Repeat(fields("A", "b"), n)
		holdError(t, row, api.ErrFull)
		// what lines.Write says comes first, and of that what it says first
		holdError(t, append(slices.Clone(row[1:]), fields("Content-Type", "x")...), api.ErrFull)
		holdError(t, append(slices.Clone(row[1:]), fields("A", "\n")...), api.ErrArg)
		holdError(t, append(slices.Clone(row[2:]), fields("Content-Type", "x", " ", "x")...), api.ErrArg)
	}
	holdError(t, append(slices.Clone(row[1:]), fields("content-type", "x")...), api.ErrArg)
}

func TestSettledOnesComeBack(t *testing.T) { // P24.4
	g := newGrower(243)
	hold := func(p api.Policy, html string) {
		t.Helper()
		p.Quotes = false
		s, e := clean.Compose(fields("Subject", "x", "A", "b"), html)
		if m := clean.Clean(s, p); e != api.OK || m.Html != html || m.Subject != "x" || len(m.Files) > 0 || m.Blocked > 0 {
			t.Errorf("P24.4: %.300q, %v comes back as %.300q, %d", html, p, m.Html, e)
		}
	}
	for _, p := range policies() {
		for _, html := range []string{"", " ", "\n", "\n a \t\n\n", "a=3D", "=", "a ", "&lt;p&gt;", "--b--", ".", "From x", "<b>\u00e9\u2026</b>", "&nbsp;", "<pre>\n</pre>", "<p>a</p><p>b</p>", "<a href=\"mailto:a@b\" rel=\"noopener noreferrer\">x</a>", "\x00\ufeff\u2028", "a<blockquote>b</blockquote>", "&gt; a", strings.Repeat("\u00e9", 30000), strings.Repeat("x <br>", 2500)} {
			hold(p, html)
		}
	}
	for range 10000 {
		p := g.policy()
		// A carriage return is a line feed in each text of a message.
		html := clean.Html(strings.ReplaceAll(g.document(20), "&#13;", ""), p, nil)
		hold(p, html)
		if t.Failed() {
			return
		}
	}
}

func TestComposeKeepsNothing(t *testing.T) { // R5, R6
	row := append(fields("Subject", "x", "A", "b"), slices.Repeat(fields("Spare", "spare"), 5)...)
	l, kept := row[:2], slices.Clone(row)
	first, _ := clean.Compose(l, "y")
	if again, e := clean.Compose(l, "y"); again != first || e != api.OK || !slices.Equal(row, kept) {
		t.Errorf("R5: %q, then %q; %v", first, again, row)
	}
	for name := range strings.SplitSeq("Content-Type,a b", ",") {
		l[1].Name = name
		kept := slices.Clone(row)
		if holdError(t, l, api.ErrArg); !slices.Equal(row, kept) {
			t.Errorf("R5: %v", row)
		}
	}
}

func TestAnswersAreOnesOwn(t *testing.T) { // R5, R6
	s := message("--b\r\n\r\nx\r\n--b\r\nContent-Type: image/png\r\n\r\ny\r\n--b--", "From: a@b, c@d, e@f", "To: g@h, i@j, k@l", "Content-Type: multipart/mixed; boundary=b")
	m, want := clean.Clean(s, api.Policy{}), clean.Clean(s, api.Policy{})
	// what is done to one list, and to the room behind it, is done to no other one
	clear(m.From[:cap(m.From)])
	if !slices.Equal(m.To, want.To) || len(m.To) != 3 {
		t.Errorf("R5: %v, not %v", m.To, want.To)
	}
	clear(m.To[:cap(m.To)])
	clear(m.Files[:cap(m.Files)])
	if u := clean.Clean(s, api.Policy{}); !reflect.DeepEqual(u, want) {
		t.Errorf("R6: %v, not %v", u, want)
	}
	files := []api.Attached{{Kind: "image/png", Id: "x"}, {Kind: "spare"}}
	if u := clean.Html("<img src=cid:x>", api.Policy{}, files[:1]); u != "<img src=\"att:0\">" || files[0].Id != "x" || files[1].Kind != "spare" {
		t.Errorf("R5: %q, %v", u, files)
	}
}

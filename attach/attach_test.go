package attach_test

import (
	"math/rand"
	"reflect"
	"runtime/debug"
	"slices"
	"strconv"
	"strings"
	"testing"

	"muslin/api"
	"muslin/attach"
	"muslin/b64"
	"muslin/chars"
	"muslin/lines"
	"muslin/param"
	"muslin/parts"
	"muslin/qp"
)

const (
	encoding    = "Content-Transfer-Encoding"
	disposition = "Content-Disposition"
	contentID   = "Content-ID"
	bad         = "\ufffd"
)

// part makes one of a kind and a body, with fields of names and values by turns.
func part(kind, body string, row ...string) api.Part {
	p := api.Part{Kind: kind, Body: body}
	for i := 0; i < len(row); i += 2 {
		p.Fields = append(p.Fields, api.Field{Name: row[i], Value: row[i+1]})
	}
	return p
}

// with is a part with parameters of names and values by turns.
func with(p api.Part, row ...string) api.Part {
	for i := 0; i < len(row); i += 2 {
		p.Params = append(p.Params, api.Param{Name: row[i], Value: row[i+1]})
	}
	return p
}

// in is a part that has others.
func in(l ...api.Part) api.Part {
	return api.Part{Kind: "multipart/mixed", Parts: l}
}

func holdBytes(t *testing.T, p api.Part, want string) {
	t.Helper()
	if s := attach.Bytes(p); s != want {
		t.Errorf("P11.1: Bytes(%q) is %q, not %q", p, s, want)
	}
}

func TestBytes(t *testing.T) { // P11.1
	const body = "SGk=3Dx="
	for value, want := range map[string]string{
		"base64": "Hi", "BASE64": "Hi", "bAsE64": "Hi", " base64": "Hi", "base64\t": "Hi", " \t Base64 \t ": "Hi",
		"quoted-printable": "SGk=x=", "Quoted-PRINTABLE": "SGk=x=", "\tquoted-printable ": "SGk=x=",
		"": body, " ": body, "7bit": body, "8bit": body, "binary": body, "x-base64": body, "base 64": body, "base64;": body, "base64 x": body, "base-64": body, "base": body, "base640": body, "(x) base64": body, "\"base64\"": body, "base64, base64": body, "=?ascii?Q?base64?=": body,
		"base64\n": body, "base64\r": body, "\nbase64": body, "\vbase64": body, "base64\f": body, "\u00a0base64": body, "base64\xff": body, "ba\u017fe64": body, "quoted-pr\u0130ntable": body, "base64\x00": body,
		"quoted printable": body, "quoted_printable": body, "quotedprintable": body, "quoted-printable;": body, "x-quoted-printable": body, "q": body, "b": body, "uuencode": body,
	} {
		holdBytes(t, part("a/b", body, encoding, value), want)
		holdBytes(t, part("text/plain", body, "A", "base64", strings.ToUpper(encoding), value, encoding, "base64"), want)
		holdBytes(t, part("", body, "content-transfer-encoding", value, encoding, "quoted-printable"), want)
	}
	holdBytes(t, api.Part{}, "")
	holdBytes(t, part("a/b", body), body)
	holdBytes(t, part("a/b", body, "Content-Encoding", "base64", "Transfer-Encoding", "base64", encoding+"s", "base64", "X-"+encoding, "base64", "", "base64"), body)
	holdBytes(t, with(part("a/b", body), "content-transfer-encoding", "base64", encoding, "base64"), body)
	holdBytes(t, api.Part{Fields: part("", "", encoding, "base64").Fields, Body: body, Parts: []api.Part{part("", "x")}}, "Hi")
	holdBytes(t, part("a/b", "U\r\nG k*=x", encoding, "base64"), "Pi")
	holdBytes(t, part("a/b", "a=\r\nb \n=zz", encoding, "quoted-printable"), "ab\n=zz")
	holdBytes(t, part("a/b", "\x00\xff\r\n\r \n", encoding, "8bit"), "\x00\xff\r\n\r \n")
}

func TestBytesOfAll(t *testing.T) { // P11.1
	random := rand.New(rand.NewSource(111))
	for n := range 300 {
		b := make([]byte, n)
		random.Read(b)
		s := string(b)
		for value, body := range map[string]string{"base64": b64.Wrap(s, 76), "quoted-printable": qp.Encode(s), "binary": s} {
			holdBytes(t, part("a/b", body, encoding, value), s)
		}
		holdBytes(t, part("a/b", s, encoding, "base64"), b64.Decode(s))
		holdBytes(t, part("a/b", s, encoding, "quoted-printable"), qp.Decode(s))
	}
}

func holdText(t *testing.T, p api.Part, want string) {
	t.Helper()
	if s := attach.Text(p); s != want {
		t.Errorf("P11.1: Text(%q) is %q, not %q", p, s, want)
	}
}

func TestText(t *testing.T) { // P11.1
	plain := part("text/plain", "caf\xe9 \x80\u00e9")
	holdText(t, plain, "caf\u00e9 \u20ac\u00c3\u00a9")
	for charset, want := range map[string]string{
		"us-ascii": "caf\u00e9 \u20ac\u00c3\u00a9", "Latin1": "caf\u00e9 \u20ac\u00c3\u00a9", " windows-1252 ": "caf\u00e9 \u20ac\u00c3\u00a9",
		"utf-8": "caf" + bad + " " + bad + "\u00e9", "koi8-r": "caf" + bad + " " + bad + "\u00e9", "": "caf" + bad + " " + bad + "\u00e9", "latin1*en": "caf" + bad + " " + bad + "\u00e9",
		"utf-16": "\u6163\ue966\u8020\ua9c3", "utf-16be": "\u6361\u66e9\u2080\uc3a9",
	} {
		holdText(t, with(plain, "charset", charset), want)
		holdText(t, with(plain, "name", "utf-8", "charset", charset, "charset", "utf-8", "charset", "l1"), want)
	}
	// other parameters, and such as stand elsewhere, tell no alphabet
	holdText(t, with(plain, "Charset", "utf-8", "charset ", "utf-8", "", "utf-8", "charsets", "utf-8", "name", "utf-8"), "caf\u00e9 \u20ac\u00c3\u00a9")
	holdText(t, part("text/plain", "\xe9", "Content-Type", "text/plain; charset=utf-8", disposition, "inline; charset=utf-8", "Charset", "utf-8"), "\u00e9")
	holdText(t, api.Part{}, "")
	// of each kind, and of those that are no leaves
	holdText(t, part("image/png", "\xe9\r"), "\u00e9\n")
	holdText(t, api.Part{Body: "\xe9", Parts: []api.Part{{Body: "x"}}}, "\u00e9")
	// bytes are told ahead of signs
	holdText(t, part("text/plain", "4oKsDQph", encoding, "base64"), "\u00e2\u201a\u00ac\na")
	holdText(t, with(part("text/plain", "4oKsDQph", encoding, "base64"), "charset", "utf-8"), "\u20ac\na")
	holdText(t, with(part("text/plain", "=E2=82=AC=0D=0Aa=0D", encoding, "quoted-printable"), "charset", "utf-8"), "\u20ac\na\n")
}

func TestTextEndsOfLines(t *testing.T) { // P11.1
	for s, want := range map[string]string{
		"\r\n": "\n", "\r": "\n", "\n": "\n", "\n\r": "\n\n", "\r\r": "\n\n", "\r\r\n": "\n\n", "\r\n\r": "\n\n", "\r\n\n": "\n\n", "\n\r\n": "\n\n", "\r\n\r\n": "\n\n", "\r\r\n\n\r": "\n\n\n\n",
		"a\r\nb\rc\nd": "a\nb\nc\nd", "a\r": "a\n", "\ra": "\na", " \r\n \r ": " \n \n ", "a\v\f\u0085\u2028\u2029b": "a\v\f\u0085\u2028\u2029b",
	} {
		holdText(t, with(part("text/plain", s), "charset", "utf-8"), want)
		wide := ""
		for _, r := range s {
			wide += string([]byte{byte(r >> 8), byte(r)})
		}
		holdText(t, with(part("text/html", wide), "charset", "utf-16be"), want)
	}
	// signs count, not bytes
	holdText(t, with(part("text/plain", "\r\n\n\r\x00\r\x00\n\r\x00"), "charset", "utf-16be"), "\u0d0a\u0a0d\n\u0d00")
	random := rand.New(rand.NewSource(112))
	for range 3000 {
		s := ""
		for range random.Intn(12) {
			s += []string{"\r", "\n", "a", "\x85"}[random.Intn(4)]
		}
		want := ""
		for i := range len(s) {
			switch {
			case s[i] == '\r':
				want += "\n"
			case s[i] != '\n' || i == 0 || s[i-1] != '\r':
				want += s[i : i+1]
			}
		}
		want, _ = chars.Decode("l1", want)
		holdText(t, part("text/plain", s), want)
	}
}

func holdShown(t *testing.T, p api.Part, want bool) {
	t.Helper()
	if attach.Shown(p) != want {
		t.Errorf("P11.2: Shown(%q) is not %v", p, want)
	}
	// what is a leaf, and is not shown, is a file
	if isFile := len(attach.Files(p)) == 1; len(p.Parts) == 0 && isFile == want {
		t.Errorf("P11.3, P11.5: Files(%q): %v", p, isFile)
	}
}

func TestShownByKind(t *testing.T) { // P11.2
	for kind, want := range map[string]bool{
		"text/plain": true, "text/html": true,
		"": false, "text": false, "text/": false, "text/plain ": false, " text/html": false, "text/css": false, "text/plainx": false, "text/htm": false, "text/xhtml": false, "text/html/x": false, "Text/Plain": false, "TEXT/HTML": false, "html": false, "application/xhtml+xml": false, "multipart/mixed": false, "multipart/alternative": false, "message/rfc822": false, "image/png": false, "text/plain;": false, "text/plain; charset=utf-8": false,
	} {
		holdShown(t, part(kind, "x"), want)
		holdShown(t, part(kind, ""), want)
		holdShown(t, with(part(kind, "x", disposition, "inline", contentID, "<x>", encoding, "base64"), "charset", "utf-8"), want)
	}
	for _, kind := range []string{"text/plain", "text/html"} {
		holdShown(t, api.Part{Kind: kind, Parts: []api.Part{}}, true)
		holdShown(t, api.Part{Kind: kind, Parts: []api.Part{{}}}, false)
		holdShown(t, api.Part{Kind: kind, Body: "x", Parts: []api.Part{part(kind, "")}}, false)
	}
}

func TestShownByDisposition(t *testing.T) { // P11.2
	for value, want := range map[string]bool{
		"": true, "inline": true, "x": true, "inline; attachment": true, "inline; attachment=x": true, "; attachment": true, "x-attachment": true, "attachments": true, "attach": true, "attachment x": true, "\"attachment\"": true, "attachment=x": true, "(x) attachment": true, "attachment\v": true, "attachment\u00a0": true, "at\x00tachment": true, "attachment, inline": true, "inline; size=4": true,
		"attachment": false, "Attachment": false, "ATTACHMENT": false, " attachment ": false, "\tattachment\r\n": false, "attachment;": false, "attachment ; size=4": false, "attachment; x=\"inline\"": false, "attachment;inline": false,
	} {
		for _, kind := range []string{"text/plain", "text/html"} {
			holdShown(t, part(kind, "x", disposition, value), want)
			holdShown(t, part(kind, "x", "A", "attachment", "content-DISPOSITION", value, disposition, "attachment; filename=f"), want)
			holdShown(t, part(kind, "x", disposition, value, disposition, "inline; filename=f"), want)
		}
	}
	holdShown(t, part("text/plain", "x", "Disposition", "attachment", disposition+"s", "attachment", "X-"+disposition, "attachment", "", "attachment"), true)
	holdShown(t, with(part("text/plain", "x"), "content-disposition", "attachment", "disposition", "attachment"), true)
}

// named tells by which name a part, whose disposition and parameters these are, should go.
var named = []struct {
	value string
	row   []string
	name  string
}{
	{"", nil, ""},
	{"inline; filename=f", nil, "f"},
	{"inline; filename=f", []string{"name", "n"}, "f"},
	{"inline; FileName = \"a \\\" b\"", []string{"name", "n"}, "a \" b"},
	{"inline; filename*=utf-8''caf%C3%A9; filename=f", nil, "caf\u00e9"},
	{"inline; filename*0=a; filename*1=b; filename=f", nil, "ab"},
	{"inline; filename==?utf-8?B?Y2Fmw6k=?=", nil, "caf\u00e9"},
	{"inline; filename=../a/b\\c", nil, "../a/b\\c"},
	{"inline; filename=f; filename=g", nil, "f"},
	{"; filename=f", nil, "f"},
	{"filename=f", nil, ""},
	{"filename=f", []string{"name", "n"}, "n"},
	{"inline; filename=", nil, ""},
	{"inline; filename=\"\"", []string{"name", "n"}, "n"},
	{"inline; filename=; filename=g", []string{"name", "n"}, "n"},
	{"inline; filename", []string{"name", "n"}, "n"},
	{"inline; filename*=utf-8''", []string{"name", "n"}, "n"},
	{"inline; filename*=utf-8''; filename=f", []string{"name", "n"}, "n"},
	{"inline; filename=\" \"", []string{"name", "n"}, " "},
	{"inline; name=f", nil, ""},
	{"inline; name=f", []string{"name", "n"}, "n"},
	{"inline; filenames=f; file-name=f; xfilename=f", []string{"filename", "n"}, ""},
	{"inline", []string{"name", "n"}, "n"},
	{"inline", []string{"name", "n", "name", "m"}, "n"},
	{"inline", []string{"name", "", "name", "m"}, ""},
	{"inline", []string{"charset", "l1", "name", "a/b.html"}, "a/b.html"},
	{"inline", []string{"Name", "n", "name ", "n", "names", "n", "", "n", "filename", "n"}, ""},
}

func TestShownByName(t *testing.T) { // P11.2
	for _, c := range named {
		for _, kind := range []string{"text/plain", "text/html"} {
			p := with(part(kind, "x", disposition, c.value), c.row...)
			holdShown(t, p, c.name == "")
			p.Fields = append(p.Fields, api.Field{Name: disposition, Value: "inline; filename=other"})
			holdShown(t, p, c.name == "")
		}
	}
	holdShown(t, part("text/plain", "", "Content-Type", "text/plain; name=n", "filename", "f", "name", "n"), true)
	holdShown(t, with(part("text/html", ""), "name", "n"), false)
	holdShown(t, with(part("text/html", ""), "name", ""), true)
	holdShown(t, with(part("text/html", "", "content-disposition", "inline", disposition, "inline; filename=f")), true)
}

func holdFiles(t *testing.T, p api.Part, want ...api.Attached) {
	t.Helper()
	if l := attach.Files(p); !slices.Equal(l, want) {
		t.Errorf("P11.3: Files(%q) is %q, not %q", p, l, want)
	}
}

func TestFilesOfALeaf(t *testing.T) { // P11.3
	holdFiles(t, api.Part{}, api.Attached{})
	holdFiles(t, part("text/plain", "x"))
	holdFiles(t, part("text/html", "x", contentID, "<x>"))
	holdFiles(t, part("image/png", "SGk=", encoding, "base64", contentID, "<x>"), api.Attached{Kind: "image/png", Id: "x", Bytes: "Hi"})
	holdFiles(t, part("text/plain", "a=3Db\r\n", encoding, "quoted-printable", disposition, "attachment"), api.Attached{Kind: "text/plain", Bytes: "a=b\r\n"})
	holdFiles(t, part("multipart/mixed", "--x\n"), api.Attached{Kind: "multipart/mixed", Bytes: "--x\n"})
	holdFiles(t, part("message/rfc822", "A: b\n\nc"), api.Attached{Kind: "message/rfc822", Bytes: "A: b\n\nc"})
	// what comes with an alphabet is told in its bytes all the same
	holdFiles(t, with(part("text/css", "\xe9\r\n"), "charset", "l1"), api.Attached{Kind: "text/css", Bytes: "\xe9\r\n"})
	for _, c := range named {
		p := with(part("Image/PNG", "x", disposition, c.value, disposition, "attachment; filename=other"), c.row...)
		holdFiles(t, p, api.Attached{Name: c.name, Kind: "Image/PNG", Bytes: "x"})
		if c.name != "" {
			p.Kind = "text/html"
			holdFiles(t, p, api.Attached{Name: c.name, Kind: "text/html", Bytes: "x"})
		}
	}
}

func TestFilesIds(t *testing.T) { // P11.3
	for value, id := range map[string]string{
		"": "", "x": "x", "<x>": "x", "<x": "x", "x>": "x", "<>": "", "<": "", ">": "", "><": "><", "<<x>>": "<x>", "<<": "<", ">>": ">", "<x>>": "x>", "x<y>z": "x<y>z", "<x> ": "x> ", " <x>": " <x", "<a@b.c>": "a@b.c", "<X>": "X", "<x>, <y>": "x>, <y", "< x >": " x ", "\"<x>\"": "\"<x>\"", "\xff": "\xff", "<=?l1?Q?x?=>": "=?l1?Q?x?=", "<a%20b>": "a%20b",
	} {
		want := api.Attached{Kind: "a/b", Id: id}
		holdFiles(t, part("a/b", "", contentID, value), want)
		holdFiles(t, part("a/b", "", "X", "<y>", "content-id", value, contentID, "<z>"), want)
	}
	holdFiles(t, with(part("a/b", "", "Content-Id-X", "x", "ID", "x", "Message-ID", "x", "", "x"), "id", "x", "content-id", "x"), api.Attached{Kind: "a/b"})
}

// file is the one that a part of kind a/b is.
func file(body string) api.Attached {
	return api.Attached{Kind: "a/b", Bytes: body}
}

func TestFilesInOrder(t *testing.T) { // P11.3
	x, y, z, shown := part("a/b", "x"), part("a/b", "y"), part("a/b", "z"), part("text/plain", "no")
	holdFiles(t, in(x), file("x"))
	holdFiles(t, in(x, y, x), file("x"), file("y"), file("x"))
	holdFiles(t, in(shown))
	holdFiles(t, in(shown, in(shown, shown), in(in(shown))))
	holdFiles(t, in(in(in(x), y), z), file("x"), file("y"), file("z"))
	holdFiles(t, in(x, in(y, in(z))), file("x"), file("y"), file("z"))
	holdFiles(t, in(shown, in(z, shown, y), shown, in(in(shown), x)), file("z"), file("y"), file("x"))
	holdFiles(t, in(in(), x), api.Attached{Kind: "multipart/mixed"}, file("x"))
	// what has parts is no file itself, whatever it is
	whole := part("a/b", "body", contentID, "<i>", disposition, "attachment; filename=f")
	whole.Parts = []api.Part{x, y}
	holdFiles(t, whole, file("x"), file("y"))
	holdFiles(t, in(whole, z), file("x"), file("y"), file("z"))
	// those of a message in a message, too
	whole.Kind = "message/rfc822"
	holdFiles(t, in(shown, whole), file("x"), file("y"))
	whole.Kind = "text/plain"
	holdFiles(t, whole, file("x"), file("y"))
	holdFiles(t, api.Part{Kind: "a/b", Body: "x", Parts: []api.Part{}}, file("x"))
}

func TestFilesOfAMessage(t *testing.T) { // P11.3
	p := parts.Parse("Content-Type: multipart/mixed; boundary=x\r\n\r\n" +
		"--x\r\n\r\nHello\r\n" +
		"--x\r\nContent-Type: multipart/related; boundary=y\r\n\r\n" +
		"--y\r\nContent-Type: text/html\r\n\r\n<img src=cid:i>\r\n" +
		"--y\r\nContent-Type: Image/PNG; name=\"n\"\r\nContent-ID: <i>\r\nContent-Transfer-Encoding: Base64\r\n\r\nSG\r\nk=\r\n--y--\r\n" +
		"--x\r\nContent-Type: message/rfc822\r\n\r\nContent-Type: text/plain; name=\"=?l1?Q?caf=E9?=\"\r\n\r\na\r\n" +
		"--x\r\nContent-Disposition: attachment;\r\n filename*0*=l1''caf%e9;\r\n filename*1=\".txt\"\r\n\r\nb\r\n\r\n--x--\r\n")
	holdFiles(t, p, api.Attached{Name: "n", Kind: "image/png", Id: "i", Bytes: "Hi"}, api.Attached{Name: "caf\u00e9", Kind: "text/plain", Bytes: "a"}, api.Attached{Name: "caf\u00e9.txt", Kind: "text/plain", Bytes: "b\r\n"})
}

// leavesOf are those of a part, as P11.3 says it.
func leavesOf(p api.Part) []api.Part {
	if len(p.Parts) == 0 {
		return []api.Part{p}
	}
	var out []api.Part
	for _, inner := range p.Parts {
		out = append(out, leavesOf(inner)...)
	}
	return out
}

// filesOf are those of a part, put together leaf by leaf.
func filesOf(p api.Part) []api.Attached {
	var out []api.Attached
	for _, leaf := range leavesOf(p) {
		value, _ := lines.Get(leaf.Fields, disposition)
		main, params := param.Parse(value)
		name, _ := param.Get(params, "filename")
		if name == "" {
			name, _ = param.Get(leaf.Params, "name")
		}
		if name == "" && main != "attachment" && (leaf.Kind == "text/plain" || leaf.Kind == "text/html") {
			continue
		}
		id, _ := lines.Get(leaf.Fields, contentID)
		id = strings.TrimSuffix(strings.TrimPrefix(id, "<"), ">")
		out = append(out, api.Attached{Name: name, Kind: leaf.Kind, Id: id, Bytes: attach.Bytes(leaf)})
	}
	return out
}

// grown makes some part, with others that are as deep as most in it.
func grown(random *rand.Rand, most int) api.Part {
	pick := func(row ...string) string { return row[random.Intn(len(row))] }
	p := part(pick("text/plain", "text/html", "text/css", "image/png", "multipart/mixed", ""), pick("", "SGk=", "a=3Db", "\xff\r"))
	if random.Intn(3) == 0 {
		p.Fields = append(p.Fields, part("", "", encoding, pick("base64", "Quoted-Printable ", "8bit")).Fields...)
	}
	for range random.Intn(3) {
		p.Fields = append(p.Fields, part("", "", disposition, pick("inline", "attachment", "inline; filename=f", "Attachment; filename=\"\"", "x; filename=g")).Fields...)
	}
	for range random.Intn(2) {
		p.Fields = append(p.Fields, part("", "", contentID, pick("", "<i>", "j", "<k", "<>")).Fields...)
	}
	if random.Intn(3) == 0 {
		p = with(p, "name", pick("", "n"))
	}
	for range random.Intn(most + 1) {
		p.Parts = append(p.Parts, grown(random, most-1))
	}
	return p
}

func TestFilesOfAll(t *testing.T) { // P11.3, P11.5
	random := rand.New(rand.NewSource(113))
	for range 2000 {
		p := grown(random, random.Intn(6))
		holdFiles(t, p, filesOf(p)...)
		shown := 0
		all := leavesOf(p)
		for _, leaf := range all {
			if attach.Shown(leaf) {
				shown++
			}
		}
		if n := len(attach.Files(p)); n+shown != len(all) {
			t.Fatalf("P11.5: %q: %d leaves, %d shown, %d files", p, len(all), shown, n)
		}
	}
}

func TestFilesOfDeepOnes(t *testing.T) { // P11.3
	for depth := range 100 {
		p := in(part("a/b", "x"), part("text/plain", "no"), part("a/b", "y"))
		for i := range depth {
			ahead, behind := part("a/b", "a"+strconv.Itoa(i)), part("a/b", "b"+strconv.Itoa(i))
			p = in(ahead, in(in(), p), behind)
			if i%3 == 0 {
				p.Parts = p.Parts[1:]
			}
		}
		holdFiles(t, p, filesOf(p)...)
	}
}

func TestFilesOfVeryDeepOnes(t *testing.T) { // P11.3, R1
	const levels = 200000
	// With so little room for calls, one for each level would end the program.
	defer debug.SetMaxStack(debug.SetMaxStack(1 << 21))
	leaf := part("a/b", "x")
	for i, count := range map[int]int{0: 1, 1: levels + 1, 2: levels + 1, 3: 2*levels + 1} {
		p := leaf
		for range levels {
			p = in([][]api.Part{{p}, {leaf, p}, {p, leaf}, {leaf, p, leaf}}[i]...)
		}
		l := attach.Files(p)
		if len(l) != count || slices.ContainsFunc(l, func(a api.Attached) bool { return a != file("x") }) {
			t.Errorf("P11.3: case %d: %d files, not %d", i, len(l), count)
		}
		if attach.Shown(p) {
			t.Errorf("P11.2: case %d: shown", i)
		}
	}
}

func TestFind(t *testing.T) { // P11.4
	l := []api.Attached{{Name: "n"}, {Id: "x", Name: "1"}, {Id: "y"}, {Id: "x", Name: "2"}, {Id: "\xff\u00e9"}, {Id: "<z>"}, {Id: " "}, {Name: "w", Kind: "w", Bytes: "w"}}
	for id, want := range map[string]int{"x": 1, "y": 2, "\xff\u00e9": 4, "<z>": 5, " ": 6, "": -1, "X": -1, "z": -1, "n": -1, "w": -1, "1": -1, "x ": -1, " x": -1, "<x>": -1, "xy": -1, "\xff": -1} {
		if n, is := attach.Find(l, id); is != (want >= 0) || n != max(want, 0) {
			t.Errorf("P11.4: Find of %q is %d, %v, not %d", id, n, is, want)
		}
		for _, none := range [][]api.Attached{nil, {}, {{}}, {{Name: id, Kind: id, Bytes: id}}} {
			if n, is := attach.Find(none, id); n != 0 || is {
				t.Errorf("P11.4: Find of %q in %q is %d, %v", id, none, n, is)
			}
		}
	}
	if n, is := attach.Find([]api.Attached{{Id: "a"}, {Id: "b"}}, "a"); n != 0 || !is {
		t.Errorf("P11.4: the first one: %d, %v", n, is)
	}
	for n := range 500 {
		l = append(l, api.Attached{Id: "f" + strconv.Itoa(n)})
	}
	for n := range 500 {
		if at, is := attach.Find(l, "f"+strconv.Itoa(n)); at != 8+n || !is {
			t.Errorf("P11.4: %d, %v, not %d", at, is, 8+n)
		}
	}
}

func TestAnswersAreOnesOwn(t *testing.T) { // R5, R6
	build := func() api.Part {
		html := with(part("text/html", "x", disposition, "inline; filename=f"), "name", "n")
		png := part("image/png", "SGk=", encoding, "base64", contentID, "<i>")
		return in(png, in(html, part("text/plain", "y")), in(in(png), html))
	}
	p, same := build(), build()
	first, second := attach.Files(p), attach.Files(p)
	if len(first) != 4 || !slices.Equal(first, second) {
		t.Fatalf("R6: %q, then %q", first, second)
	}
	clear(first)
	_ = append(first[:1], api.Attached{Name: "z"})
	attach.Find(second, "z")
	attach.Text(p)
	attach.Bytes(p)
	attach.Shown(p)
	if !slices.Equal(attach.Files(p), second) || !slices.Equal(second, filesOf(same)) {
		t.Errorf("R5: %q", second)
	}
	if !reflect.DeepEqual(p, same) {
		t.Errorf("R5: what was handed in is %q now", p)
	}
}

func TestLongTextsEnd(t *testing.T) { // R1
	const size = 1 << 16
	for _, one := range []string{"\r", "\r\n", "=", "=\n", " ", "A", "\xff", "<", ">", ";", "\"", "a=b;", "filename*0=x;"} {
		s := strings.Repeat(one, size)
		for _, value := range []string{"base64", "quoted-printable", "x"} {
			p := with(part("text/plain", s, encoding, value, disposition, s, contentID, s), "charset", s, "name", s)
			attach.Text(p)
			attach.Shown(p)
			if l := attach.Files(p); len(l) != 1 || l[0].Bytes != attach.Bytes(p) {
				t.Errorf("P11.3: many of %q: %d files", one, len(l))
			}
		}
	}
	if l := attach.Files(in(slices.Repeat([]api.Part{part("a/b", "x"), part("text/plain", "y")}, size)...)); len(l) != size || l[size-1] != file("x") {
		t.Errorf("P11.3: many parts: %d files", len(l))
	}
}

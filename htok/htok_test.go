package htok_test

import (
	"math/rand"
	"reflect"
	"regexp"
	"slices"
	"strconv"
	"strings"
	"testing"

	"muslin/api"
	"muslin/ent"
	"muslin/htok"
)

// white is what stands between attributes.
const white = " \t\n\f\r"

// rawNames has the document's list.
func rawNames() []string {
	return []string{"script", "style", "title", "textarea", "xmp", "iframe", "noembed", "noframes", "plaintext", "noscript"}
}

func text(s string) api.Token    { return api.Token{Kind: api.Chars, Text: s} }
func end(name string) api.Token  { return api.Token{Kind: api.End, Name: name} }
func comment(s string) api.Token { return api.Token{Kind: api.Comment, Text: s} }

// start makes one with attributes of names and values by turns.
func start(name string, row ...string) api.Token {
	token := api.Token{Kind: api.Start, Name: name}
	for i := 0; i < len(row); i += 2 {
		token.Attrs = append(token.Attrs, api.Attr{Name: row[i], Value: row[i+1]})
	}
	return token
}

// same tells whether tokens are the same, field by field.
func same(a, b []api.Token) bool {
	return slices.EqualFunc(a, b, func(x, y api.Token) bool {
		return x.Kind == y.Kind && x.Name == y.Name && x.Text == y.Text && slices.Equal(x.Attrs, y.Attrs)
	})
}

// shown is tokens in short: what each one is, its name, attributes and text.
func shown(l ...api.Token) string {
	s := ""
	for _, token := range l {
		s += " " + strconv.Itoa(token.Kind) + " " + token.Name
		for _, a := range token.Attrs {
			s += " " + strconv.Quote(a.Name) + "=" + strconv.Quote(a.Value)
		}
		s += " " + strconv.Quote(token.Text) + ";"
	}
	return "[" + s + " ]"
}

func holdScan(t *testing.T, s string, want ...api.Token) {
	t.Helper()
	if l := htok.Scan(s); !same(l, want) {
		t.Errorf("P13.1: Scan(%q) is %s, not %s", s, shown(l...), shown(want...))
	}
}

func TestScanChars(t *testing.T) { // P13.1
	holdScan(t, "")
	for _, s := range []string{"a", ">", "-->", "<", "<<", "</", "a</", "< b>", "<1>", "<\x00b>", "<\u00e9>", "<\xff", "<=", "<-->", "<&>", "<\n!--x-->", "a < b > c", "<>", "\xff\xc2", "\x00", "/>", "<<</"} {
		holdScan(t, s, text(s))
		holdScan(t, "<b>"+s, start("b"), text(s))
	}
	holdScan(t, "&lt;b&gt; &amp;amp; &#65; &x;", text("<b> &amp; A &x;"))
	holdScan(t, "<&lt;", text("<<"))
	// each is decoded by itself ahead of that
	holdScan(t, "&am</>p; &</>#65; &lt;</>&gt;", text("&amp; &#65; <>"))
	holdScan(t, "a</></></>b</>", text("ab"))
	holdScan(t, "&am<b>p;", text("&am"), start("b"), text("p;"))
	holdScan(t, "</></>")
	// what begins nothing stays in its characters
	holdScan(t, "&l<1t;&#6<5;", text("&l<1t;&#6<5;"))
	holdScan(t, "a<<b>c", text("a<"), start("b"), text("c"))
	holdScan(t, "a<</b>c", text("a<"), end("b"), text("c"))
	holdScan(t, "1<2<!>3", text("1<2"), comment(""), text("3"))
}

func TestScanNames(t *testing.T) { // P13.1
	holdScan(t, "<A HREF=x>y</a>", start("a", "href", "x"), text("y"), end("a"))
	holdScan(t, "<DIV>x</Div>", start("div"), text("x"), end("div"))
	for _, name := range []string{"a", "z", "h1", "x-y:z", "a<b", "a\"b'", "a=b", "a&lt;", "a\x00\xff\u00e9", "a!--", "scripts", "scrip"} {
		for _, behind := range []string{"", " ", "\t", "\n", "\f", "\r", "/", " / \n//"} {
			holdScan(t, "<"+name+behind+">t", start(name), text("t"))
			holdScan(t, "</"+name+behind+">t", end(name), text("t"))
		}
		for _, c := range white + "/" {
			holdScan(t, "<"+name+string(c)+"b=c>", start(name, "b", "c"))
		}
	}
	// other letters have no small ones
	holdScan(t, "<A\u00c9\u0130\u212a\u017f>", start("a\u00c9\u0130\u212a\u017f"))
	holdScan(t, "<a\v>", start("a\v"))
	for c := range 256 {
		s := "<" + string([]byte{byte(c)}) + ">"
		switch {
		case 'a' <= c && c <= 'z':
			holdScan(t, s, start(s[1:2]))
			holdScan(t, "</"+s[1:], end(s[1:2]))
		case 'A' <= c && c <= 'Z':
			holdScan(t, s, start(strings.ToLower(s[1:2])))
			holdScan(t, "</"+s[1:], end(strings.ToLower(s[1:2])))
		case c == '>':
			holdScan(t, "</"+s[1:], text(">"))
		case c == '/':
			holdScan(t, s)
			holdScan(t, "</"+s[1:], comment("/"))
		case c == '!' || c == '?':
			holdScan(t, s, comment(strings.TrimPrefix(s[1:2], "!")))
			holdScan(t, "</"+s[1:], comment(s[1:2]))
		default:
			holdScan(t, s, text(s))
			holdScan(t, "</"+s[1:], comment(s[1:2]))
		}
	}
}

func TestScanAttributes(t *testing.T) { // P13.1
	for tag, row := range map[string][]string{
		" b": {"b", ""}, " b=": {"b", ""}, " b= ": {"b", ""}, " b=c": {"b", "c"}, " B=C": {"b", "C"}, " b = c ": {"b", "c"}, "/b/c": {"b", "", "c", ""}, " b=c/": {"b", "c/"}, " b=/": {"b", "/"}, " b=c/d e/f": {"b", "c/d", "e", "", "f", ""},
		" b=\"\"": {"b", ""}, " b=''": {"b", ""}, " b=\"c d\"": {"b", "c d"}, " b='\">/'": {"b", "\">/"}, " b=\"'>\"c='\n'": {"b", "'>", "c", "\n"}, " b='c'd": {"b", "c", "d", ""}, " b=\"c\"/d=e": {"b", "c", "d", "e"}, " b='c'=d": {"b", "c", "=d", ""}, " b=\"c\"\"d\"": {"b", "c", "\"d\"", ""},
		" b=c\"d'": {"b", "c\"d'"}, " b=c=d": {"b", "c=d"}, " b==c": {"b", "=c"}, " b= = c": {"b", "=", "c", ""}, " =": {"=", ""}, " ==": {"=", ""}, " =b=c": {"=b", "c"}, " ===": {"=", "="}, " = b": {"=", "", "b", ""}, " =/b": {"=", "", "b", ""}, " b / = c": {"b", "", "=", "", "c", ""}, " b\t\n\f\r =\r\f\n\t c": {"b", "c"},
		" \"": {"\"", ""}, " \"b c\"": {"\"b", "", "c\"", ""}, " <b": {"<b", ""}, " b<c=d<e": {"b<c", "d<e"}, " b&amp;=&amp;": {"b&amp;", "&"}, " b='&lt;&#39;&x;'": {"b", "<'&x;"}, " b=\"&quot;\"": {"b", "\""}, " b=&#32;&gt; c": {"b", " >", "c", ""}, " b='&am' c='p;'": {"b", "&am", "c", "p;"}, " \x00=\xff": {"\x00", "\xff"}, " \v=\v": {"\v", "\v"}, " \u00c9\u212a=\u00c9": {"\u00c9\u212a", "\u00c9"}, " \u00a0": {"\u00a0", ""}, " !--": {"!--", ""},
		" b=1 B=2 c b=3 C=4": {"b", "1", "c", ""}, " b b=1": {"b", ""}, " b='' b=x": {"b", ""}, " =b =b=c": {"=b", "b=c"}, " =b/=b=c": {"=b", ""},
	} {
		holdScan(t, "<a"+tag+">t", start("a", row...), text("t"))
		holdScan(t, "<a"+tag+" >t", start("a", row...), text("t"))
		holdScan(t, "<a\n/ \t"+tag+">t", start("a", row...), text("t"))
		holdScan(t, "</a"+tag+">t", end("a"), text("t"))
		// a tag that nothing ends is nothing, and so is all behind it
		for _, begin := range []string{"<a", "</a"} {
			holdScan(t, begin+tag)
			holdScan(t, "x"+begin+tag+" ", text("x"))
			holdScan(t, "x<b>"+begin+tag+" x c='>", text("x"), start("b"))
			holdScan(t, "</>x<!>"+begin+tag+" x c = \"><b>y</b>'", text("x"), comment(""))
		}
	}
	holdScan(t, "x<a", text("x"))
	holdScan(t, "x</a", text("x"))
	holdScan(t, "x<script", text("x"))
	holdScan(t, "x<a/", text("x"))
	holdScan(t, "<a b='>x'>y", start("a", "b", ">x"), text("y"))
	holdScan(t, "</a b='>x'>y", end("a"), text("y"))
	holdScan(t, "<a b=c<d>e", start("a", "b", "c<d"), text("e"))
}

func TestScanManyAttributes(t *testing.T) { // P13.1
	for count := range 70 {
		var row []string
		once, twice := "", ""
		for i := range count {
			name, value := "n"+strconv.Itoa(i), "v"+strconv.Itoa(i)
			row = append(row, name, value)
			once += " " + name + "=" + value
			twice += " " + strings.ToUpper(name) + "=" + value + " " + name + "='x' n0 "
		}
		want := start("a", row[:min(len(row), 2*api.MaxAttrs)]...)
		holdScan(t, "<a"+once+">t", want, text("t"))
		// those that count for nothing take no room
		holdScan(t, "<a"+twice+">t", want, text("t"))
		holdScan(t, "</a"+twice+">t", end("a"), text("t"))
		holdScan(t, "<a"+twice+" x='>")
		holdScan(t, "<a"+once+"><b"+once+" >", want, start("b", row[:min(len(row), 2*api.MaxAttrs)]...))
	}
}

func TestScanRaw(t *testing.T) { // P13.1
	for _, name := range rawNames() {
		upper := strings.ToUpper(name)
		mixed := upper[:1] + name[1:2] + upper[2:]
		inner := []string{"", "a", "a<b>&lt;</b>", "<!--x-->", "</", "<", "</" + name[1:] + ">", "</" + name + "x>", "</" + name + "\v>", "</" + name + "=>", "</ " + name + ">", "<" + name + ">", "&am</>p;", "</" + name[:2] + "\x00" + name[2:] + ">", "\x00\xff", "<!--", "<b c='", "</" + name}
		for _, u := range inner {
			for _, begin := range []string{"<" + name + ">", "<" + upper + " >", "<" + mixed + "/>", "<" + name + "\n/\f>"} {
				for _, close := range []string{name + ">", upper + ">", mixed + " >", name + "/>", name + "\t\n\f\r >", upper + " b='>'>"} {
					if name == "plaintext" {
						holdScan(t, begin+u+"</"+close+"c", start(name), text(u+"</"+close+"c"))
						continue
					}
					want := []api.Token{start(name), text(u), end(name), text("c&")}
					if u == "" {
						want = slices.Delete(want, 1, 2)
					}
					holdScan(t, begin+u+"</"+close+"c&amp;", want...)
				}
				if u == "" {
					holdScan(t, begin, start(name))
				} else {
					holdScan(t, begin+u, start(name), text(u))
				}
			}
		}
		holdScan(t, "x<"+name+" b=c>", text("x"), start(name, "b", "c"))
		holdScan(t, "x<"+name+" b=c", text("x"))
		// an end has nothing in it
		holdScan(t, "</"+name+">&amp;<b>", end(name), text("&"), start("b"))
		if name != "plaintext" {
			// an end that is not ended is nothing
			holdScan(t, "<"+name+">x</"+name+" ", start(name), text("x"))
			holdScan(t, "<"+name+">x</"+name+"/y='>", start(name), text("x"))
			holdScan(t, "<"+name+">x</"+name+">y<"+name+">z</"+name+">&amp;", start(name), text("x"), end(name), text("y"), start(name), text("z"), end(name), text("&"))
			// another raw name ends nothing
			holdScan(t, "<"+name+"></plaintext></"+name+">", start(name), text("</plaintext>"), end(name))
		}
	}
	// other letters are none of a name's, large or small
	holdScan(t, "<\u017fcript>a<b>", text("<\u017fcript>a"), start("b"))
	holdScan(t, "<script></\u017fcript></SCRIPT>", start("script"), text("</\u017fcript>"), end("script"))
	holdScan(t, "<script\u017f>a<b>", start("script\u017f"), text("a"), start("b"))
	holdScan(t, "<s\u0441ript>&amp;", start("s\u0441ript"), text("&"))
	holdScan(t, "<pre>&amp;<b>", start("pre"), text("&"), start("b"))
}

func TestScanComments(t *testing.T) { // P13.1
	for s, want := range map[string]string{
		"<!---->": "", "<!--a-->": "a", "<!--a--b-->": "a--b", "<!--a--->": "a-", "<!----->": "-", "<!------>": "--", "<!-- > -->": " > ", "<!--->a-->": "", "<!-->a-->": "", "<!--a--!>b-->": "a--!>b", "<!--<!--a-->": "<!--a", "<!---a-->": "-a", "<!--&lt;<b>-->": "&lt;<b>", "<!--A\x00\xff-->": "A\x00\xff", "<!--->-->": "", "<!--a>-->": "a>",
		"<!>": "", "<!->": "-", "<!-a->": "-a-", "<! --a>": " --a", "<!doctype HTML>": "doctype HTML", "<![CDATA[x]]>": "[CDATA[x]]", "<!&lt;'\">": "&lt;'\"", "<!!>": "!", "<!/>": "/", "<!<b>": "<b",
		"<?>": "?", "<?xml a='b'?>": "?xml a='b'?", "<?--a-->": "?--a--", "<??>": "??", "<?!--a>": "?!--a",
		"</ a>": " a", "</1>": "1", "</!--a-->": "!--a--", "</!>": "!", "</?>": "?", "</--a-->": "--a--", "<//>": "/", "</ >": " ", "</<b>": "<b", "</\xff>": "\xff", "</&lt;>": "&lt;", "</=\">": "=\"",
	} {
		behind := ""
		switch s { // these are ended ahead of their own end
		case "<!--->a-->", "<!-->a-->":
			behind = "a-->"
		case "<!--->-->":
			behind = "-->"
		}
		if behind == "" {
			holdScan(t, s, comment(want))
			holdScan(t, s+s, comment(want), comment(want))
		}
		holdScan(t, s+"t", comment(want), text(behind+"t"))
		holdScan(t, "&am"+s+"p;", text("&am"), comment(want), text(behind+"p;"))
	}
	// what nothing ends goes to the end
	for s, want := range map[string]string{"<!--": "", "<!---": "-", "<!----": "--", "<!--a": "a", "<!--a--": "a--", "<!--a->": "a->", "<!-- <b>&lt;</b>": " <b>&lt;</b>", "<!--a-- >": "a-- >", "<!": "", "<!a": "a", "<!-": "-", "<!'": "'", "<?": "?", "<?a": "?a", "</ ": " ", "</1": "1", "</!--": "!--", "</<": "<", "</&": "&"} {
		holdScan(t, s, comment(want))
		holdScan(t, "t"+s, text("t"), comment(want))
	}
}

// The chapter's words as patterns.
var (
	capitals = regexp.MustCompile(`[A-Z]+`)
	anyMark  = regexp.MustCompile(`(?s)<(?:[a-zA-Z!?]|/.)`)
	tagBegin = regexp.MustCompile(`^</?([a-zA-Z][^ \t\n\f\r/>]*)`)
	tagSkip  = regexp.MustCompile(`^[ \t\n\f\r/]*`)
	tagAttr  = regexp.MustCompile(`(?s)^([^ \t\n\f\r/>][^ \t\n\f\r/>=]*)(?:[ \t\n\f\r]*=[ \t\n\f\r]*(?:"([^"]*)(?:"|$)|'([^']*)(?:'|$)|([^ \t\n\f\r>"'][^ \t\n\f\r>]*|)))?`)
	remark   = regexp.MustCompile(`(?s)^(?:<!--(?:-?>|(.*?)(?:-->|$))|<!([^>]*)(?:>|$)|<(\?[^>]*)(?:>|$)|</([^>]*)(?:>|$))`)
)

// small is a name with a to z for A to Z.
func small(s string) string {
	return capitals.ReplaceAllStringFunc(s, strings.ToLower)
}

// tagByPatterns reads the tag that s begins with: what it is, and how many bytes it has; 0: it has no end.
func tagByPatterns(s string) (api.Token, int) {
	m := tagBegin.FindStringSubmatch(s)
	token := api.Token{Kind: api.Start, Name: small(m[1])}
	if s[1] == '/' {
		token.Kind = api.End
	}
	at := len(m[0])
	seen := map[string]bool{}
	for {
		at += len(tagSkip.FindString(s[at:]))
		if at == len(s) {
			return api.Token{}, 0
		}
		if s[at] == '>' {
			return token, at + 1
		}
		m := tagAttr.FindStringSubmatch(s[at:])
		at += len(m[0])
		name := small(m[1])
		if token.Kind == api.Start && !seen[name] && len(seen) < 30 {
			token.Attrs = append(token.Attrs, api.Attr{Name: name, Value: ent.Decode(m[2] + m[3] + m[4])})
			seen[name] = true
		}
	}
}

// rawByPattern is how many bytes belong to a raw element.
func rawByPattern(s, name string) int {
	pattern := `</`
	for _, c := range name {
		pattern += "[" + string(c) + strings.ToUpper(string(c)) + "]"
	}
	at := regexp.MustCompile(pattern + `[ \t\n\f\r/>]`).FindStringIndex(s)
	if at == nil || name == "plaintext" {
		return len(s)
	}
	return at[0]
}

// scanByPatterns takes a document apart as P13.1 says it, by patterns.
func scanByPatterns(s string) []api.Token {
	var l []api.Token
	chars := func(s string) {
		if n := len(l) - 1; n >= 0 && l[n].Kind == api.Chars {
			l[n].Text += s
		} else if s != "" {
			l = append(l, text(s))
		}
	}
	for s != "" {
		at := len(s)
		if m := anyMark.FindStringIndex(s); m != nil {
			at = m[0]
		}
		chars(ent.Decode(s[:at]))
		s = s[at:]
		switch {
		case s == "":
		case tagBegin.MatchString(s):
			token, size := tagByPatterns(s)
			if size == 0 {
				return l
			}
			l = append(l, token)
			s = s[size:]
			if token.Kind == api.Start && slices.Contains(rawNames(), token.Name) {
				size := rawByPattern(s, token.Name)
				chars(s[:size])
				s = s[size:]
			}
		case strings.HasPrefix(s, "</>"):
			s = s[3:]
		default:
			m := remark.FindStringSubmatch(s)
			l = append(l, comment(m[1]+m[2]+m[3]+m[4]))
			s = s[len(m[0]):]
		}
	}
	return l
}

// eachShort hands all texts of at most so many of these pieces to look.
func eachShort(most int, look func(s string), pieces ...string) {
	row := []string{""}
	look("")
	for range most {
		var longer []string
		for _, s := range row {
			for _, piece := range pieces {
				longer = append(longer, s+piece)
				look(s + piece)
			}
		}
		row = longer
	}
}

func TestScanMixed(t *testing.T) { // P13.1
	hold := func(s string) {
		if l, want := htok.Scan(s), scanByPatterns(s); !same(l, want) {
			t.Fatalf("P13.1: Scan(%q) is %s, not %s", s, shown(l...), shown(want...))
		}
	}
	eachShort(7, hold, "<", "/", ">", "!", "-", "a")
	eachShort(6, func(s string) { hold("<a" + s + ">t") }, "b", "=", "\"", "'", " ", "/", ">")
	eachShort(5, func(s string) { hold("<XMP>" + s) }, "</", "xmp", "XmP", ">", " ", "b", "&lt;")
	eachShort(5, hold, "<?", "<!--", "-->", "--", "</>", "&lt;", "<b>", "</a")
	random := rand.New(rand.NewSource(131))
	row := []string{"<", "<", "<", "</", "</", ">", ">", ">", ">", "/", "=", "=", "=", "\"", "'", "\"", "'", " ", "\t", "\n", "\f", "\r", "\v", "a", "b", "A", "1", "-", "--", "<!--", "-->", "<!", "<?", "?", "!", "&lt;", "&am", "p;", "&#65;", "script", "SCRIPT", "<title>", "</Title>", "</title ", "<style", "</style", "<plaintext>", "<p>", "</p>", "<a href=x>", " b=c", " c", "\x00", "\xff", "\u00e9", "\u017f", "\u212a", "\u00a0"}
	kinds := map[int]int{}
	for range 150000 {
		s := ""
		for range random.Intn(20) {
			s += row[random.Intn(len(row))]
		}
		hold(s)
		for _, token := range scanByPatterns(s) {
			kinds[token.Kind]++
			kinds[-1] += len(token.Attrs)
		}
	}
	for _, kind := range []int{api.Chars, api.Start, api.End, api.Comment, -1} {
		if kinds[kind] < 20000 {
			t.Errorf("only %d of kind %d", kinds[kind], kind)
		}
	}
}

func TestRaw(t *testing.T) { // P13.2
	for _, name := range rawNames() {
		if !htok.Raw(name) {
			t.Errorf("P13.2: %q is none", name)
		}
		for _, other := range []string{strings.ToUpper(name), strings.ToUpper(name[:1]) + name[1:], name + " ", " " + name, name + "\x00", name[1:], name[:len(name)-1], name + "s", name + name, name + " style", "<" + name + ">"} {
			if htok.Raw(other) {
				t.Errorf("P13.2: %q is one", other)
			}
		}
	}
	for _, name := range []string{"", " ", "p", "b", "pre", "listing", "svg", "math", "template", "object", "select", "option", "video", "audio", "canvas", "textArea", "head", "noframe", "s", "\u017fcript", "script,style", "\xff"} {
		if htok.Raw(name) {
			t.Errorf("P13.2: %q is one", name)
		}
	}
}

func holdWrite(t *testing.T, want string, l ...api.Token) {
	t.Helper()
	if s := htok.Write(l); s != want {
		t.Errorf("P13.3: Write(%s) is %q, not %q", shown(l...), s, want)
	}
}

func TestWrite(t *testing.T) { // P13.3
	const signs = "a<b>&\"c'\u00a0\xff"
	const asText, asValue = "a&lt;b&gt;&amp;\"c'&nbsp;\xff", "a&lt;b&gt;&amp;&quot;c'&nbsp;\xff"
	holdWrite(t, "")
	holdWrite(t, asText, text(signs))
	holdWrite(t, "<a>", start("a"))
	holdWrite(t, "<a b=\""+asValue+"\" c=\"\">", start("a", "b", signs, "c", ""))
	holdWrite(t, "</a>", end("a"))
	holdWrite(t, "", comment("x"))
	holdWrite(t, "<a b=\"c\">&amp;lt;<br></a>&amp;", start("a", "b", "c"), text("&lt;"), comment("x"), start("br"), end("a"), text(""), text("&"))
	// names are as they stand, of what is raw too
	holdWrite(t, "<A<\xff &\"=\"1\" &\"=\"2\" =\"3\"></A \">", start("A<\xff", "&\"", "1", "&\"", "2", "", "3"), end("A \""))
	holdWrite(t, "<></>", start(""), end(""))
	holdWrite(t, "<script>&lt;b&gt;</script>", start("script"), text("<b>"), end("script"))
	// there is nothing of a kind that it does not have
	all := api.Token{Name: "n", Attrs: []api.Attr{{Name: "a", Value: "v"}}, Text: "t<"}
	for kind, want := range map[int]string{api.Chars: "t&lt;", api.Start: "<n a=\"v\">", api.End: "</n>", api.Comment: "", 0: "", 5: "", -1: "", 1 << 40: ""} {
		all.Kind = kind
		holdWrite(t, want, all)
		holdWrite(t, "x"+want+want+"y", text("x"), all, all, text("y"))
	}
	many := start("a")
	want := "<a"
	for i := range 100 {
		many.Attrs = append(many.Attrs, api.Attr{Name: "n" + strconv.Itoa(i/2), Value: "v"})
		want += " n" + strconv.Itoa(i/2) + "=\"v\""
	}
	holdWrite(t, want+">", many)
}

// grown is a row of tokens of which P13.4 says that they are written and read to the same.
func grown(random *rand.Rand) []api.Token {
	const firsts, letters = "abcdefghijklmnopqrstuvwxyz", "abcdefghijklmnopqrstuvwxyz0123456789"
	name := func() string {
		s := firsts[random.Intn(26):][:1]
		for range random.Intn(4) {
			s += letters[random.Intn(36):][:1]
		}
		if htok.Raw(s) {
			return "p"
		}
		return s
	}
	said := func(most int) string {
		row := []string{"a", " ", "<", ">", "&", "\"", "'", "&lt;", "&#65;", "amp;", "=", "/", "<b>", "</b>", "<!--", "-->", "</>", "\u00a0", "\xc2", "\xa0", "\xff", "\x00", "\r\n", "\u20ac", "]]>", "<script>"}
		s := ""
		for range most {
			s += row[random.Intn(len(row))]
		}
		return s
	}
	var l []api.Token
	for range random.Intn(8) {
		switch random.Intn(3) {
		case 0:
			if n := len(l) - 1; n < 0 || l[n].Kind != api.Chars {
				l = append(l, text(said(1+random.Intn(5))))
			}
		case 1:
			token := start(name())
			for range random.Intn(40) {
				if a := name(); len(token.Attrs) < 30 && !slices.ContainsFunc(token.Attrs, func(b api.Attr) bool { return b.Name == a }) {
					token.Attrs = append(token.Attrs, api.Attr{Name: a, Value: said(random.Intn(5))})
				}
			}
			l = append(l, token)
		case 2:
			l = append(l, end(name()))
		}
	}
	return l
}

func TestWhatIsWrittenIsRead(t *testing.T) { // P13.4
	random := rand.New(rand.NewSource(134))
	for range 30000 {
		l := grown(random)
		if again := htok.Scan(htok.Write(l)); !same(again, l) {
			t.Fatalf("P13.4: %s is written %q, and read %s", shown(l...), htok.Write(l), shown(again...))
		}
	}
}

func TestAnswersAreOnesOwn(t *testing.T) { // R5, R6
	const s = "a<b c=d e=f>g<i c=d>h</i j>k<!--l--><title m=n>o</title><u><s></s>"
	first, second := htok.Scan(s), htok.Scan(s)
	if !reflect.DeepEqual(first, second) || len(first) != 14 {
		t.Fatalf("R6: %s, then %s", shown(first...), shown(second...))
	}
	for i, token := range first {
		// what is put behind one list, or into it, is in no other
		_ = append(token.Attrs, api.Attr{Name: "z"}, api.Attr{Name: "z"})
		for j := range token.Attrs {
			token.Attrs[j] = api.Attr{Name: "y" + strconv.Itoa(i)}
		}
	}
	for i, token := range first {
		if len(token.Attrs) != len(second[i].Attrs) || slices.ContainsFunc(token.Attrs, func(a api.Attr) bool { return a.Name != "y"+strconv.Itoa(i) }) {
			t.Errorf("R5: %s", shown(token))
		}
	}
	_ = append(first[:1], text("z"))
	if third := htok.Scan(s); !reflect.DeepEqual(second, third) {
		t.Errorf("R5: %s, then %s", shown(second...), shown(third...))
	}
	written := htok.Write(second)
	if third := htok.Scan(s); !reflect.DeepEqual(second, third) || htok.Write(second) != written {
		t.Errorf("R5: what was handed in is %s now", shown(second...))
	}
}

func TestLongTextsEnd(t *testing.T) { // R1
	const size = 1 << 17
	for one, count := range map[string]int{"<": 1, "</": 1, ">": 1, "<!": 1, "<!-": 1, "<!--": 1, "-->": 1, "<?": 1, "<a": 0, "</a": 0, "<a ": 0, "<a b='": 0, "<a b=": 0, "&": 1, "&lt;": 1, "</>": 0, "a</>": 1, "<b>": size, "</b>": size, "<!>": size, "<!---->": size, "<b/>": size, "<b c=d>&amp;": 2 * size, "<title>": 2, "<title></title>": 2 * size, "<title></titl></title>": 3 * size, "<title><!--</title>": 3 * size, "<plaintext>": 2, "<script></": 2, "<style>a</style ": 0} {
		if l := htok.Scan(strings.Repeat(one, size)); count > 0 && len(l) != count {
			t.Errorf("P13.1: many of %q: %d tokens, not %d", one, len(l), count)
		}
	}
	for _, one := range []string{" ", "/", "=", "b", "b=c ", "b='c'", "b ", "'", "b=\"&amp;\"", "b = '>' ", "n=&"} {
		tag := "<a " + strings.Repeat(one, size)
		if l := htok.Scan(tag + ">"); len(l) != 1 || len(l[0].Attrs) > 2 {
			t.Errorf("P13.1: a tag with many of %q: %d tokens", one, len(l))
		}
		if l := htok.Scan(tag); len(l) != 0 {
			t.Errorf("P13.1: a tag with many of %q, without an end: %d tokens", one, len(l))
		}
	}
	var many strings.Builder
	for i := range size {
		many.WriteString(" n" + strconv.Itoa(i))
	}
	if l := htok.Scan("<a" + many.String() + ">"); len(l) != 1 || len(l[0].Attrs) != 30 {
		t.Errorf("P13.1: a tag with many attributes: %d tokens", len(l))
	}
	l := slices.Repeat([]api.Token{start("b", "c", "\""), text("<"), end("b")}, size)
	if s := htok.Write(l); s != strings.Repeat("<b c=\"&quot;\">&lt;</b>", size) {
		t.Errorf("P13.3: many tokens: %d bytes", len(s))
	}
}

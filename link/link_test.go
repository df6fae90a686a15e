package link_test

import (
	"math/rand"
	"regexp"
	"strings"
	"testing"

	"muslin/link"
)

// each hands all bytes to look, as texts.
func each(look func(c int, b string)) {
	for c := range 256 {
		look(c, string([]byte{byte(c)}))
	}
}

func holdClean(t *testing.T, s, want string) {
	t.Helper()
	if u := link.Clean(s); u != want {
		t.Errorf("P16.1: Clean(%q) is %q, not %q", s, u, want)
	}
}

func holdScheme(t *testing.T, s, want string, is bool) {
	t.Helper()
	if u, found := link.Scheme(s); u != want || found != is {
		t.Errorf("P16.2: Scheme(%q) is %q, %v, not %q, %v", s, u, found, want, is)
	}
}

func holdKind(t *testing.T, s string, want int) {
	t.Helper()
	if kind := link.Kind(s); kind != want {
		t.Errorf("P16.3: Kind(%q) is %d, not %d", s, kind, want)
	}
}

func TestClean(t *testing.T) { // P16.1
	for s, want := range map[string]string{
		"": "", " ": "", "\x00": "", "\t\n\r": "", " \x1f\t ": "", "a": "a", " a b ": "a b", "a  b": "a  b", "\x00\x1fa\tb\nc\rd\x7f ": "abcd\x7f", "a\x01b": "a\x01b", "a\x00\x0b\x0cb": "a\x00\x0b\x0cb", "a\t\t\r\n\nb": "ab",
		// what stands at an end only when the rest is left out stays
		"a \tb": "a b", "a\t b": "a b", " \t a": "a", "a \n ": "a", "\x7f a \x7f": "\x7f a \x7f",
		// no other white counts, nor does a broken sign
		"\u00a0a\u00a0": "\u00a0a\u00a0", "\u2003a\u3000": "\u2003a\u3000", "\u0085a\u2028": "\u0085a\u2028", "\ufeffa\u200b": "\ufeffa\u200b", " \xff\ta\xc2 ": "\xffa\xc2", "\xc2\ta\xa0": "\xc2a\xa0", "\x80a\x80": "\x80a\x80", " \xc0\x80 ": "\xc0\x80", "a\xff\nb": "a\xffb", "\xe2\t\x80\x83": "\xe2\x80\x83",
		"JAVA\tScript:x": "JAVAScript:x", " HTTP://H/ ": "HTTP://H/", "a%20b&#9;c": "a%20b&#9;c", "\\t a \\n": "\\t a \\n",
	} {
		holdClean(t, s, want)
	}
	each(func(c int, b string) {
		at, in := b, b
		if c <= 32 {
			at = ""
		}
		if c == 9 || c == 10 || c == 13 {
			in = ""
		}
		holdClean(t, b, at)
		holdClean(t, b+b, at+at)
		holdClean(t, b+"x", at+"x")
		holdClean(t, "x"+b, "x"+at)
		holdClean(t, " "+b+" x"+b+"y "+b+"\x00", at+strings.Repeat(" ", len(at))+"x"+in+"y"+strings.Repeat(" ", len(at))+at)
		holdClean(t, "x"+b+b+"y", "x"+in+in+"y")
	})
}

func TestScheme(t *testing.T) { // P16.2
	for s, want := range map[string]string{
		"http:x": "http", "http:": "http", "a:": "a", "Z:": "z", "HTTPS://H": "https", "Java-Script:X": "java-script", "a+b-c.1:x": "a+b-c.1", "a1+-.9:": "a1+-.9", "a-:": "a-", "z.:": "z.", "mailto:a@b": "mailto", "cid:x:y": "cid", "data:text/html,x": "data", "a::b": "a", "x:/y:z": "x",
		" HT\nTP:": "http", "\x00\x1f http\t:x": "http", "\tj\ra\nv\ta:x": "java", "h\nttp\r\n:": "http", " a\t:": "a", "a:\x01": "a", "a: b": "a", "a:\xff\xfe": "a", "a:\u00e9": "a",
		"abcdefghijklmnopqrstuvwxyz0123456789+-.:": "abcdefghijklmnopqrstuvwxyz0123456789+-.", "ABCDEFGHIJKLMNOPQRSTUVWXYZ:": "abcdefghijklmnopqrstuvwxyz", strings.Repeat("aB", 5000) + ":": strings.Repeat("ab", 5000),
	} {
		holdScheme(t, s, want, true)
	}
	for _, s := range []string{
		"", " ", ":", "::", ":a", " :a:", "a", "http", "http;x", "http.x", "1a:", "+a:", "-a:", ".a:", "9:", "a/b:c", "a?b:c", "a#b:c", "#a:b", "?a:b", "/a:b", "//a:b", "\\a:b", "a b:c", "a :b", "a\x00:b", "a\x01b:", "a\x7f:", "a\v:", "a\f:b", "a_b:", "a~b:", "a%41:", "a&#58;b", "@a:", "[a:", "`a:", "{a:", "a@b:c", "a[:", "a,b:", "a/:", "a;:", "a*:",
		"\u00e9:", "a\u00e9:", "\u017fcheme:", "http\u017f:", "\u212aa:", "a\u0660:", "\uff41:", "\xff:", "a\xff:", "\xe9:", "a\x80:", "http\uff1a//h", "\u00a0a:", "\ufeffhttp://h", "a\u00a0:", "\u2003a:",
	} {
		holdScheme(t, s, "", false)
	}
	each(func(c int, b string) {
		letter := 'a' <= c && c <= 'z' || 'A' <= c && c <= 'Z'
		left := c == '\t' || c == '\n' || c == '\r'
		behind := letter || '0' <= c && c <= '9' || strings.Contains("+-.", b)
		is := func(s string, ok bool) {
			t.Helper()
			if ok {
				holdScheme(t, s+":c", strings.ToLower(s), true)
			} else {
				holdScheme(t, s+":c", "", false)
			}
		}
		switch {
		case c <= 32:
			holdScheme(t, b+"a:"+b, "a", true)
			holdScheme(t, b+":", "", false)
			if left {
				holdScheme(t, "a"+b+"d"+b+":", "ad", true)
			} else {
				holdScheme(t, "a"+b+"d:", "", false)
				holdScheme(t, "a"+b+":", "", false)
			}
		case c == ':':
			holdScheme(t, ":a:", "", false)
			holdScheme(t, "a:d:", "a", true)
		default:
			is(b, letter)
			is(b+"d", letter)
			is("a"+b, behind)
			is("A"+b+"d", behind)
			is("a1"+b+b, behind)
			holdScheme(t, "a"+b, "", false)
		}
	})
}

func TestKinds(t *testing.T) { // P16.3
	// They are constants that fit every number.
	const all = link.Near + 10*link.Web + 100*link.Safe + 1000*link.Mail + 10000*link.Inside + 100000*link.Other
	if all != 543210 || link.Near != 0 || float64(link.Other)/2 != 2.5 {
		t.Errorf("P16.3: the kinds' numbers are %d", all)
	}
	for kind, row := range map[int][]string{
		link.Near:   {"", " ", "x", "/x", "//h", "//h:1/x", "#a:b", "?a:b", "a b:c", "1http://h", ":http://h", "http", "https//h", "http//h:1", "mailto", "cid", "./cid:x", "/http://h", "\\http://h", "-http://h", "\x00 /", "\u00e9:x", "http\x01://h", "http ://h", "\u00a0http://h", "http\uff1a//h", "java\u00a0script:x", "&#104;ttp://h", "%68ttp://h", "\u017fcid:x", "cid\xff:x"},
		link.Web:    {"http://h", "HTTP://H", "hTtP://h", "http://h:80/x", "http://a@b", "http://@", "http://:", "http://.", "http:// h", "http://\x01h", "http://\xff", "http://\u00e9", "http://&", "http://%2f", "http://h//", "http://[::1]/", " http://h ", "\x00http://h", "HTTP:/\t/h", "ht\ntp:/\r/\nh", "h\tt\tt\tp\t:\t/\t/\th", "http://\th", "http://h\t", "http://*", "http://https:"},
		link.Safe:   {"https://h", "HTTPS://H", "hTtPs://h", "https://h:1/", "https://a:b@c/?d#e", "https://-", "https:// h", "https://\x02h", "https://\xc2\xa0", "\x1fhttps://h\x00", "h\nttps:\r//\th", "https://http:", "https://\"", "https://<b>"},
		link.Mail:   {"mailto:a@b", "mailto:", "MAILTO:x", "Mailto:?to=a", "mail\tto:a", " mailto:", "mailto://h", "mailto:/\\", "mailto:\xff"},
		link.Inside: {"cid:x", "cid:", "CID:X", "cId:\u00e9", "c\ni\rd\t:x", "\x01cid:x ", "cid://x", "cid:/", "cid:cid:x", "cid:http://h"},
		link.Other:  {"http:", "https:", "http:h", "http:/h", "http:///h", "http:////h", "http://", "https://", "http://?", "http://#", "http:///", "http://\\h", "https://\\h", "https://?x", "https://#x", "https:///h", "https:/h", "https:h", "https:\\\\h", "http:\\/h", "http:/\\h", "http:h//h", "http://\t\n\r", "http:// ", "http://\x00", "http://\t/h", "https://\n#", "http:/ /h", "http: //h", "http:\x01//h", "http:?//h", "https:#//h", "javascript:x", " java\nscript:x", "JaVaScRiPt:x", "vbscript:x", "data:x", "data:image/png;base64,", "file:///x", "ftp://h", "about:blank", "blob:https://h", "tel:1", "sms:1", "att:0", "att:", "x:", "a:http://h", "http.://h", "httpss://h", "http+s://h", "shttp://h", "xhttps://h", "ht-tp://h", "http1://h", "mailt:a", "mailto2:a", "mailto.:a", "mid:x", "cids:x", "ci:d", "acid:x", "cid.:x", "cid-:x", "https.:x", "urn:cid:x", "view-source:http://h", "ws://h", "wss://h"},
	} {
		for _, s := range row {
			holdKind(t, s, kind)
		}
	}
	each(func(c int, b string) {
		web, safe := link.Web, link.Safe
		if strings.Contains("/?#\\", b) || c == '\t' || c == '\n' || c == '\r' {
			web, safe = link.Other, link.Other
		}
		// Nothing stays behind what begins the host, if this byte is none that the address ends with.
		if c > 32 {
			holdKind(t, "http://"+b, web)
			holdKind(t, "https://"+b, safe)
		} else {
			holdKind(t, "http://"+b, link.Other)
			holdKind(t, "https://"+b, link.Other)
		}
		if c == '\t' || c == '\n' || c == '\r' {
			web, safe = link.Web, link.Safe
		}
		holdKind(t, "http://"+b+"h", web)
		holdKind(t, "https://"+b+"h", safe)
		holdKind(t, "http://h"+b, link.Web)
		holdKind(t, "https://h"+b+"x", link.Safe)
		holdKind(t, "mailto:"+b, link.Mail)
		holdKind(t, "cid:"+b+"/", link.Inside)
		holdKind(t, "data:"+b, link.Other)
		if c != '/' && c != '\t' && c != '\n' && c != '\r' {
			holdKind(t, "http:/"+b+"h", link.Other)
			holdKind(t, "https:"+b+"/h", link.Other)
			holdKind(t, "http:"+b+"//h", link.Other)
		}
	})
}

// The chapter's words as patterns, byte by byte: those above 127 stand as signs of two bytes.
var (
	ends       = regexp.MustCompile(`^[\x00-\x20]+|[\x00-\x20]+$`)
	leftOut    = regexp.MustCompile(`[\t\n\r]`)
	hasScheme  = regexp.MustCompile(`^([a-zA-Z][a-zA-Z0-9+\-.]*):`)
	tellsHost  = regexp.MustCompile(`(?is)^https?://[^/?#\\]`)
	byPatterns = map[string]int{"http": link.Web, "https": link.Safe, "mailto": link.Mail, "cid": link.Inside}
)

// wide writes each byte as the sign of its number, narrow does away with that.
func wide(s string) string {
	var out []rune
	for i := range len(s) {
		out = append(out, rune(s[i]))
	}
	return string(out)
}

func narrow(s string) string {
	var out []byte
	for _, r := range s {
		out = append(out, byte(r))
	}
	return string(out)
}

// holdByPatterns holds all that is told of an address against the patterns.
func holdByPatterns(t *testing.T, s string) int {
	t.Helper()
	clean := leftOut.ReplaceAllString(ends.ReplaceAllString(wide(s), ""), "")
	holdClean(t, s, narrow(clean))
	m := hasScheme.FindStringSubmatch(clean)
	if m == nil {
		holdScheme(t, s, "", false)
		holdKind(t, s, link.Near)
		return link.Near
	}
	scheme := strings.ToLower(m[1])
	holdScheme(t, s, scheme, true)
	kind, known := byPatterns[scheme]
	if !known || strings.HasPrefix(scheme, "http") && !tellsHost.MatchString(clean) {
		kind = link.Other
	}
	holdKind(t, s, kind)
	return kind
}

// mixed is an address of some pieces.
func mixed(random *rand.Rand) string {
	row := []string{"http", "https", "HTTP", "hTTps", "mailto", "cid", "att", "javascript", "data", ":", ":", ":", ":", "//", "//", "//", "/", "\\", "?", "#", "h", "Z", "7", "+", "-", ".", "@", " ", "\t", "\n", "\r", "\x00", "\x1f", "\x7f", "\x0b", "\xff", "\xc2", "\xa0", "\u00e9", "\u017f", "\u212a"}
	begins := []string{"", "", "http:", "https:", "http:/", "https://", "Http://", "mailto:", "cid:", " h\nttp\t:/", "ht"}
	s := begins[random.Intn(len(begins))]
	for range random.Intn(7) {
		s += row[random.Intn(len(row))]
	}
	return s
}

func TestMixed(t *testing.T) { // P16.1, P16.2, P16.3
	random := rand.New(rand.NewSource(161))
	kinds := map[int]int{}
	for range 60000 {
		kinds[holdByPatterns(t, mixed(random))]++
		if t.Failed() {
			return
		}
	}
	for kind := link.Near; kind <= link.Other; kind++ {
		if kinds[kind] < 1500 {
			t.Errorf("only %d of kind %d", kinds[kind], kind)
		}
	}
	pieces := []string{"http", "s", ":", "/", "\\", "h", "\t", " "}
	row := []string{""}
	for range 5 {
		var longer []string
		for _, s := range row {
			for _, piece := range pieces {
				longer = append(longer, s+piece)
				holdByPatterns(t, s+piece)
			}
		}
		row = longer
	}
}

// holdSame tells whether two addresses are the same to all calls.
func holdSame(t *testing.T, s, other string) {
	t.Helper()
	scheme, is := link.Scheme(s)
	otherScheme, otherIs := link.Scheme(other)
	if link.Clean(other) != link.Clean(s) || otherScheme != scheme || otherIs != is || link.Kind(other) != link.Kind(s) {
		t.Fatalf("P16.4: %q is not what %q is", other, s)
	}
}

func TestWhatIsCleanStays(t *testing.T) { // P16.4
	random := rand.New(rand.NewSource(164))
	for range 40000 {
		s := mixed(random)
		clean := link.Clean(s)
		if again := link.Clean(clean); again != clean {
			t.Fatalf("P16.4: %q is clean as %q, and that as %q", s, clean, again)
		}
		holdSame(t, s, clean)
		// what is put in at places that are left out changes nothing
		other := clean
		for range random.Intn(4) {
			at := random.Intn(len(other) + 1)
			other = other[:at] + "\t\n\r"[random.Intn(3):][:1] + other[at:]
		}
		for range random.Intn(4) {
			other = string([]byte{byte(random.Intn(33))}) + other + string([]byte{byte(random.Intn(33))})
		}
		holdSame(t, s, other)
	}
	for _, s := range []string{"javascript:x", "http://h", "cid:x", "//h", "a b"} {
		for at := range len(s) + 1 {
			for _, one := range []string{"\t", "\n", "\r", "\r\n\t"} {
				holdSame(t, s, s[:at]+one+s[at:])
			}
		}
	}
}

func TestLongTextsEnd(t *testing.T) { // R1, R6
	const size = 1 << 20
	for _, one := range []string{" ", "\t", "a", "a ", " a", "a\n", ":", "a:", "/", "\xff", "\x00", "+", "\u00e9"} {
		s := strings.Repeat(one, size)
		holdSame(t, s, s)
		holdSame(t, "http:"+s, "http:"+s)
		if len(link.Clean(s)) > len(s) {
			t.Errorf("P16.1: many of %q are more than they were", one)
		}
	}
	holdScheme(t, strings.Repeat("a\n", size)+":x", strings.Repeat("a", size), true)
	holdKind(t, "https:"+strings.Repeat("\t", size)+"//"+strings.Repeat("\n", size)+"h", link.Safe)
}

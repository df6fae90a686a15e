package rules_test

import (
	"math/rand"
	"regexp"
	"slices"
	"strconv"
	"strings"
	"testing"

	"muslin/api"
	"muslin/css"
	"muslin/link"
	"muslin/rules"
)

// The document's lists.
func stay() []string {
	return strings.Fields("a b blockquote br code dd div dl dt em h1 h2 h3 h4 h5 h6 hr i img li ol p pre s small span strong sub sup u ul")
}

func dropped() []string {
	raw := strings.Fields("script style title textarea xmp iframe noembed noframes plaintext noscript")
	return append(raw, strings.Fields("applet audio base button canvas embed frame frameset head input link math meta object option select source svg template track video")...)
}

// opened are some of all others.
func opened() []string {
	row := strings.Fields("html body font center table caption colgroup col thead tbody tfoot tr td th form fieldset legend label optgroup datalist output progress meter details summary dialog main nav section article aside header footer address figure figcaption picture map area abbr acronym big tt strike del ins q cite dfn kbd samp var mark time data ruby rt rp bdi bdo wbr nobr marquee blink menu dir isindex keygen bgsound basefont image slot portal param h0 h7 h10 h a1 o:p x-y scripts")
	return append(row, "", " ", "a b", " a", "a ", "a/", "A", "IMG", "Script", "SCRIPT", "sVg", "\u017fcript", "lin\u212a", "img\x00", "\xff", "b\u0301")
}

func allElements() []string {
	return slices.Concat(stay(), dropped(), opened())
}

// mayBe are an element's attributes, by the document's words.
func mayBe(element string) []string {
	if !slices.Contains(stay(), element) {
		return nil
	}
	row := []string{"title", "dir", "lang", "style"}
	switch element {
	case "a":
		row = append(row, "href")
	case "img":
		row = append(row, "src", "alt", "width", "height")
	case "ol":
		row = append(row, "start")
	case "li":
		row = append(row, "value")
	}
	return row
}

func attributes() []string {
	row := strings.Fields("title dir lang style href src alt width height start value class id name type target rel action formaction background bgcolor color align valign border cellpadding srcset sizes poster data cite longdesc lowsrc dynsrc usemap ismap crossorigin loading onclick onerror onload onmouseover xmlns xml:lang xlink:href role aria-label tabindex contenteditable hidden reversed download ping face size span")
	return append(row, "", " ", "Title", "HREF", "Src", "STYLE", "href ", " src", "src\x00", "\u017ftyle", "\u017frc", "srcs", "hre", "on")
}

// policies are all there are.
func policies() []api.Policy {
	var row []api.Policy
	for i := range 8 {
		row = append(row, api.Policy{Remote: i&1 != 0, Styles: i&2 != 0, Quotes: i&4 != 0})
	}
	return row
}

func everything() api.Policy { return api.Policy{Remote: true, Styles: true, Quotes: true} }

// each hands all bytes to look, as texts.
func each(look func(c int, b string)) {
	for c := range 256 {
		look(c, string([]byte{byte(c)}))
	}
}

func isDigit(c int) bool { return '0' <= c && c <= '9' }

func isLetter(c int) bool { return 'a' <= c && c <= 'z' || 'A' <= c && c <= 'Z' }

// attr tells of an attribute what becomes of it.
type attr struct {
	t             *testing.T
	element, name string
	p             api.Policy
	files         []api.Attached
}

// holds tells that a value becomes another one.
func (a attr) holds(value, want string) {
	a.t.Helper()
	if u, is := rules.Value(a.p, a.files, a.element, api.Attr{Name: a.name, Value: value}); u != want || !is {
		a.t.Errorf("P18.2: %s %s=%q is %q, %v, not %q", a.element, a.name, value, u, is, want)
	}
}

// stays tells that values become themselves.
func (a attr) stays(row ...string) {
	a.t.Helper()
	for _, value := range row {
		a.holds(value, value)
	}
}

// falls tells that values are not let through.
func (a attr) falls(row ...string) {
	a.t.Helper()
	for _, value := range row {
		if u, is := rules.Value(a.p, a.files, a.element, api.Attr{Name: a.name, Value: value}); u != "" || is {
			a.t.Errorf("P18.2: %s %s=%q is %q, %v, not nothing", a.element, a.name, value, u, is)
		}
	}
}

// stand tells that values become themselves, or that they fall.
func (a attr) stand(so bool, row ...string) {
	a.t.Helper()
	if so {
		a.stays(row...)
	} else {
		a.falls(row...)
	}
}

func TestElement(t *testing.T) { // P18.1
	if rules.Drops != 0 || rules.Opens != 1 || rules.Stays != 2 {
		t.Errorf("P18.1: the numbers are %d, %d, %d", rules.Drops, rules.Opens, rules.Stays)
	}
	for kind, row := range map[int][]string{rules.Stays: stay(), rules.Drops: dropped(), rules.Opens: opened()} {
		for _, name := range row {
			if rules.Element(name) != kind {
				t.Errorf("P18.1: Element(%q) is %d, not %d", name, rules.Element(name), kind)
			}
		}
	}
	for _, name := range slices.Concat(stay(), dropped()) {
		for _, other := range []string{strings.ToUpper(name), name + " ", " " + name, name + "\x00", name + "-", "x" + name, name + "/", ":" + name, "<" + name} {
			if rules.Element(other) != rules.Opens {
				t.Errorf("P18.1: Element(%q) is %d", other, rules.Element(other))
			}
		}
	}
}

func TestAttr(t *testing.T) { // P18.1
	for _, element := range allElements() {
		may := mayBe(element)
		for _, name := range attributes() {
			want := slices.Contains(may, name)
			if rules.Attr(element, name) != want {
				t.Errorf("P18.1: Attr(%q, %q) is not %v", element, name, want)
			}
		}
	}
}

func TestValueOfWhatMayNotBe(t *testing.T) { // P18.2
	files := []api.Attached{{Kind: "image/png", Id: "x"}}
	values := []string{"", "x", "1", "https://h/", "cid:x", "att:0", "color: red", "ltr", "auto"}
	for _, element := range allElements() {
		may := mayBe(element)
		for _, name := range attributes() {
			if !slices.Contains(may, name) {
				attr{t, element, name, everything(), files}.falls(values...)
				continue
			}
			good := map[string]string{"href": "https://h/", "src": "att:0", "style": "color: red", "dir": "auto"}[name]
			if good == "" {
				good = "1"
			}
			attr{t, element, name, everything(), files}.stays(good)
		}
	}
}

func TestHref(t *testing.T) { // P18.2
	for _, p := range policies() {
		a := attr{t, "a", "href", p, nil}
		a.stays("http://h", "https://h", "mailto:a@b", "mailto:", "HTTP://H/x?y#z", "https://a:b@c:1/", "http://h/a b", "mailto:\u00e9\xff", "https://h/\"<>'", "http://h\\", "MailTo:x?subject=javascript:")
		a.holds(" http://h ", "http://h")
		a.holds("\x00\x1fhttps://h/\x01", "https://h/")
		a.holds("ht\ntp:/\t/\rh", "http://h")
		a.holds("\tmail\nto\r:a b ", "mailto:a b")
		a.falls("", " ", "/", "x", "x.html", "//h", "#x", "?x", "http", "http:", "http://", "http:h", "http:///h", "https:\\\\h", "https://?", "javascript:x", " JAVA\tscript:x", "\x01javascript:x", "vbscript:x", "data:text/html,x", "cid:x", "att:0", "file:///x", "ftp://h", "tel:1", "about:blank", "blob:https://h", "view-source:https://h", "\u00a0https://h", "&#104;ttps://h", "x:https://h", "mailto", ":https://h", "http\x00://h")
	}
}

// some are files of which some are pictures.
func some() []api.Attached {
	return []api.Attached{
		{Kind: "image/png", Id: "x"},
		{Kind: "image/gif", Id: "y", Name: "x"},
		{Kind: "text/css", Id: "z"},
		{Kind: "image/png", Id: "z"}, // found is the first one of an id
		{Kind: "image/", Id: "a:b"},
		{Kind: "image", Id: "c"},
		{Kind: "ximage/png", Id: "d"},
		{Kind: "IMAGE/png", Id: "e"},
		{Kind: " image/png", Id: "f"},
		{Kind: "image/png", Id: ""},
		{Kind: "image/svg+xml", Id: "\u00e9 \xff"},
		{Kind: "image/jpeg", Id: "x"},
		{Kind: "", Id: "g"},
		{Kind: "image/png", Id: "//h/X"},
	}
}

func TestSrcByIds(t *testing.T) { // P18.2
	for _, p := range policies() {
		a := attr{t, "img", "src", p, some()}
		for value, want := range map[string]string{"cid:x": "att:0", "cid:y": "att:1", "CID:x": "att:0", "Cid:y": "att:1", " cid:x\n": "att:0", "c\ni\td:\rx": "att:0", "cid:\tx": "att:0", "cid:a:b": "att:4", "cid:a:\nb": "att:4", "cid:\u00e9 \xff": "att:10", "cid:\u00e9\t \xff\x00": "att:10", "cid://h/X": "att:13"} {
			a.holds(value, want)
		}
		a.falls("cid:", "cid: ", "cid:X", "cid:z", "cid:c", "cid:d", "cid:e", "cid:f", "cid:g", "cid:w", "cid:<x>", "cid:%78", "cid: x", "cid:x:", "cid:xy", "cid:b", "cid:a", "cid:0", "cid:att:0", "cid:cid:x", "cid", "cid;x", "cid :x", "cids:x", "x", "mid:x", "cid:\u00e9", "cid://h/x", "cid:/x")
		a.files = nil
		a.falls("cid:x", "cid:", "cid:0")
		a.files = []api.Attached{}
		a.falls("cid:x")
	}
	// example 1
	attr{t, "img", "src", api.Policy{}, []api.Attached{{Kind: "image/png", Id: "w"}, {Kind: "image/png", Id: "x"}}}.holds("cid:x", "att:1")
	var many []api.Attached
	for i := range 2345 {
		many = append(many, api.Attached{Kind: "image/png", Id: "i" + strconv.Itoa(i)})
	}
	a := attr{t, "img", "src", api.Policy{}, many}
	for i := range many {
		a.holds("cid:i"+strconv.Itoa(i), "att:"+strconv.Itoa(i))
		a.stays("att:" + strconv.Itoa(i))
	}
	a.falls("att:2345", "cid:i2345", "att:00", "att:01234", "att:12345")
}

func TestSrcByNumbers(t *testing.T) { // P18.2
	for _, p := range policies() {
		a := attr{t, "img", "src", p, some()}
		for i, file := range some() {
			value := "att:" + strconv.Itoa(i)
			a.stand(strings.HasPrefix(file.Kind, "image/"), value)
			a.falls("att:0"+strconv.Itoa(i), "att:+"+strconv.Itoa(i), "att:-"+strconv.Itoa(i), "att: "+strconv.Itoa(i), value+"x", value+".", value+" x", "ATT:"+strconv.Itoa(i), "x"+value, value+":", "att"+strconv.Itoa(i), "att:#"+strconv.Itoa(i), strconv.Itoa(i), ":"+strconv.Itoa(i), "att:0x"+strconv.Itoa(i), value+"_0", value+"e0", "att:att:"+strconv.Itoa(i), "att:\x00"+strconv.Itoa(i), "att:/"+strconv.Itoa(i))
		}
		for value, want := range map[string]string{" att:0": "att:0", "att:1 \x00": "att:1", "a\ntt\t:\r0": "att:0", "att:1\n0": "att:10", "\x1fatt:1\t3\r\n": "att:13"} {
			a.holds(value, want)
		}
		a.falls("att:", "att", "att:14", "att:15", "att:99", "att:1000", "att:-1", "att:-0", "att:00", "att:1.0", "att:1,0", "att:1 0", "att:\u0661", "att:\uff11", "att:1\u00a0", "att:x", "att:NaN", "att:true", "att:one",
			"att:2147483648", "att:4294967296", "att:4294967297", "att:9223372036854775807", "att:9223372036854775808", "att:18446744073709551616", "att:18446744073709551617", "att:-18446744073709551616", "att:"+strings.Repeat("9", 5000), "att:"+strings.Repeat("0", 5000), "att:1"+strings.Repeat("0", 5000))
		a.files = nil
		a.falls("att:0", "att:1", "att:")
		each(func(c int, b string) {
			a.files = some()
			if c <= 32 {
				a.holds("att:1"+b, "att:1")
				a.holds(b+"att:1", "att:1")
			} else if isDigit(c) {
				a.stand(strings.Contains("01349", b), "att:"+b)
				a.stand(strings.Contains("013", b), "att:1"+b)
			} else {
				a.falls("att:1"+b, b+"att:1", "att:"+b+"1", "att:"+b)
			}
		})
	}
}

func TestSrcFromElsewhere(t *testing.T) { // P18.2
	for _, p := range policies() {
		a := attr{t, "img", "src", p, some()}
		a.stand(p.Remote, "https://h", "HTTPS://H/x", "https://h/?a=b#c", "https://h/att:0", "https://cid:x", "https://h/\u00e9\xff\"<>", "https:// h")
		if p.Remote {
			a.holds("https://h/\n", "https://h/")
			a.holds(" ht\ttps:/\r/h\x00", "https://h")
		} else {
			a.falls("https://h/\n", " ht\ttps:/\r/h\x00")
		}
		a.falls("", " ", "x", "x.png", "/x.png", "//h/x.png", "./x", "#x", "http://h", "http://h/x.png", "https:", "https://", "https:h", "https:///h", "https:\\\\h", "https://?x", "data:image/png;base64,eA==", "javascript:x", "mailto:a@b", "file:///x", "blob:https://h", "ftp://h/x.png", "about:blank", "x:att:0", "\u00a0https://h")
	}
}

func TestStyle(t *testing.T) { // P18.2
	for _, p := range policies() {
		for _, element := range stay() {
			a := attr{t, element, "style", p, nil}
			a.stand(p.Styles, "color: red", "color: red; width: 1px")
			if p.Styles {
				a.holds("color:red;x:y", "color: red")
				a.holds("COLOR:red;background:url(x);color:Blue;", "color: Blue")
				a.holds("position:fixed;\nmargin : 0 ;", "margin: 0")
			} else {
				a.falls("color:red;x:y", "COLOR:red;", "position:fixed;margin:0")
			}
			a.falls("", " ", ";", "x:y", "color", "color:", "color:url(x)", "background:url(https://h/)", "color:expression(x)", "position:fixed", "red", "color:\\72 ed", "(;color:red", "\";color:red")
		}
	}
}

func TestNumbers(t *testing.T) { // P18.2
	for name, element := range map[string]string{"width": "img", "height": "img", "start": "ol", "value": "li"} {
		for _, p := range policies() {
			a := attr{t, element, name, p, nil}
			a.stays("0", "1", "9", "00", "10", "007", "999", "0000", "1234", "9999")
			a.falls("", " ", "12345", "00000", "99999", "-1", "+1", "1.5", "1e3", " 1", "1 ", "1px", "50%", "1\n", "\t1", "0x1", "1_0", "a", "1a", "\u0661", "\uff11", "\u00b2", "auto", "1,2", strings.Repeat("1", 1000))
			each(func(c int, b string) {
				a.stand(isDigit(c), b, b+b, "1"+b, b+"1", "12"+b+"3", b+"123", "123"+b)
				a.falls("1234"+b, b+"1234", b+b+b+b+b)
			})
		}
	}
}

func TestDirectionAndLanguage(t *testing.T) { // P18.2
	for _, element := range stay() {
		for _, p := range policies() {
			a := attr{t, element, "dir", p, nil}
			a.stays("ltr", "rtl", "auto")
			a.falls("", " ", "x", "LTR", "Rtl", "AUTO", " ltr", "rtl ", "auto\n", "ltrrtl", "ltr rtl", "lt", "tr", "tl", "aut", "autos", "left", "inherit", "\u017ftl", "0")
			a = attr{t, element, "lang", p, nil}
			a.stays("e", "en", "EN", "en-US", "zh-Hant-TW", "-", "--", "x-1", "0", "Z9", "a-b-c-d-e-f-g-h-i-j", "12345678901234567890", strings.Repeat("-", 20), strings.Repeat("z", 19))
			a.falls("", " ", "en_US", "en US", " en", "en ", "en\n", "\ten", "\u00e9", "fran\u00e7ais", "en.", "en,de", "en;", "a+b", "123456789012345678901", strings.Repeat("z", 21), strings.Repeat("-", 1000), "\u212a", "\u017f", "\u0661", "en\x00", "\xff", "en\u2010US", strings.Repeat("z", 18)+"\u00e9")
		}
	}
	a := attr{t, "p", "lang", api.Policy{}, nil}
	each(func(c int, b string) {
		a.stand(isLetter(c) || isDigit(c) || c == '-', b, "a"+b, b+"a", "a"+b+"a", strings.Repeat("x", 19)+b, strings.Repeat(b, 20))
		a.falls(strings.Repeat("x", 20)+b, b+strings.Repeat("x", 20), strings.Repeat(b, 21))
	})
}

func TestWords(t *testing.T) { // P18.2
	long := strings.Repeat("\u00e9 <&>\"\xff", 100000)
	for _, p := range policies() {
		row := []string{"", " ", "x", "  a b\t\n", "<\u00e9>", "\"'&amp;", "javascript:x", "\x00\xff\xc3", "https://h", "12345", long}
		attr{t, "img", "alt", p, nil}.stays(row...)
		for _, element := range stay() {
			attr{t, element, "title", p, nil}.stays(row...)
		}
	}
	each(func(_ int, b string) {
		attr{t, "img", "alt", api.Policy{}, nil}.stays(b, b+b, "a"+b+"a")
		attr{t, "br", "title", api.Policy{}, nil}.stays(b, b+b, "a"+b+"a")
	})
}

// addresses are some of each kind.
func addresses() map[int][]string {
	return map[int][]string{
		link.Near:   {"x", "x.png", "/x", "//h/x.png", "#", "?", "att", "att/0", "/att:0", "https//h", "\u00a0", "\x7f", " x ", "a b", "\\\\h", "1:x", ":", "\xff", "\tx\n", "cid", "./att:0", "http ://h"},
		link.Web:    {"http://h", "HTTP://h/x.png", " ht\ntp://h", "http://h/att:0", "\x00http://h\x00"},
		link.Safe:   {"https://h", "HTTPS://H", "\thttps:\n//h ", "https://h/?x", "https://att:0"},
		link.Mail:   {"mailto:a@b", "mailto:"},
		link.Inside: {"cid:x", "cid:", "CID:nothing", " c\tid:x"},
		link.Other:  {"att:0", "att:", "att:x", "att:999", "ATT:0", " a\ntt:0", "data:image/png,x", "javascript:x", "http:x", "https:/x", "http://", "https:///h", "file:///x", "ftp://h", "x:"},
	}
}

func TestBlocked(t *testing.T) { // P18.3
	hold := func(p api.Policy, element, name, value string, want bool) {
		t.Helper()
		if rules.Blocked(p, element, api.Attr{Name: name, Value: value}) != want {
			t.Errorf("P18.3: of %+v, Blocked of %s %s=%q is not %v", p, element, name, value, want)
		}
	}
	for _, p := range policies() {
		for kind, row := range addresses() {
			for _, value := range row {
				if link.Kind(value) != kind {
					t.Errorf("%q is not of kind %d", value, kind)
				}
				hold(p, "img", "src", value, kind == link.Near || kind == link.Web || kind == link.Safe && !p.Remote)
				for _, element := range allElements() {
					if element != "img" {
						hold(p, element, "src", value, false)
					}
				}
				for _, name := range attributes() {
					if name != "src" {
						hold(p, "img", name, value, false)
					}
				}
			}
		}
		for _, value := range []string{"", " ", "\x00", "\t\r\n", " \x01\x1f "} {
			hold(p, "img", "src", value, false)
		}
		each(func(c int, b string) {
			hold(p, "img", "src", b, c > 32)
			hold(p, "img", "src", "att"+b+"0", c != ':')
			hold(p, "img", "src", "att:"+b, false)
			hold(p, "img", "src", b+"att:0", c > 32 && !isLetter(c))
		})
	}
}

// mixedAddress is one of some pieces.
func mixedAddress(random *rand.Rand) string {
	row := []string{"http", "https://", "https://h", "HTTPS", "mailto:", "cid:", "cid:x", "cid:y", "att:", "att:", "att:1", "0", "1", "2", "7", "13", "+", "-", ":", "/", "//", "h", "x", "z", "a:b", " ", "\t", "\n", "\x00", "\xff", "\u00e9", "javascript:", "\\"}
	s := ""
	for range 1 + random.Intn(4) {
		s += row[random.Intn(len(row))]
	}
	return s
}

// mixedStyle is one of some declarations.
func mixedStyle(random *rand.Rand) string {
	row := []string{"color:red", "COLOR : blue", "width:1px", "background:url(x)", "x:y", "margin: 0 !important", "'", "(", ";", "\\", "color:\"x\"", "height:50%"}
	s := ""
	for range 1 + random.Intn(5) {
		s += row[random.Intn(len(row))] + ";"
	}
	return s
}

// mixedValue is one for an attribute of a name.
func mixedValue(random *rand.Rand, name string) string {
	switch name {
	case "href", "src":
		return mixedAddress(random)
	case "style":
		return mixedStyle(random)
	}
	row := []string{"", "1", "12", "ltr", "rtl", "auto", "en", "-", "US", " ", "\n", "x", "\u00e9", "\xff", "<", "0"}
	return row[random.Intn(len(row))] + row[random.Intn(len(row))] + row[random.Intn(len(row))]
}

// The chapter's words of an address of a picture that is let through.
var (
	ownPicture = regexp.MustCompile(`^att:(0|[1-9][0-9]*)$`)
	elsewhere  = regexp.MustCompile(`^(?i)https://[^/?#\\]`)
)

// holdPicture tells whether that of src is a picture's number, or https with p.Remote.
func holdPicture(t *testing.T, p api.Policy, files []api.Attached, src string) {
	t.Helper()
	if m := ownPicture.FindStringSubmatch(src); m != nil {
		if at, err := strconv.Atoi(m[1]); err != nil || at >= len(files) || !strings.HasPrefix(files[at].Kind, "image/") {
			t.Fatalf("P18.4: src %q is no picture", src)
		}
	} else if !p.Remote || !elsewhere.MatchString(src) {
		t.Fatalf("P18.4: src %q, of %+v", src, p)
	}
}

func TestWhatIsLetThroughStays(t *testing.T) { // P18.4
	random := rand.New(rand.NewSource(184))
	files, before := some(), some()
	passed := map[string]int{}
	for range 150000 {
		element := []string{"a", "img", "img", "ol", "li", "p"}[random.Intn(6)]
		may := mayBe(element)
		name := may[random.Intn(len(may))]
		p := policies()[random.Intn(8)]
		value := mixedValue(random, name)
		u, is := rules.Value(p, files, element, api.Attr{Name: name, Value: value})
		if !is {
			attr{t, element, name, p, files}.falls(value)
			continue
		}
		passed[name]++
		attr{t, element, name, p, files}.stays(u)
		if rules.Blocked(p, element, api.Attr{Name: name, Value: u}) {
			t.Errorf("P18.4: %s=%q is let through and blocked", name, u)
		}
		switch name {
		case "src":
			holdPicture(t, p, files, u)
		case "href":
			if k := link.Kind(u); k != link.Web && k != link.Safe && k != link.Mail || link.Clean(value) != u {
				t.Errorf("P18.4: href %q is %q", value, u)
			}
		case "style":
			if !p.Styles || u == "" || css.Clean(value) != u {
				t.Errorf("P18.4: style %q is %q", value, u)
			}
		default:
			if u != value {
				t.Errorf("P18.4: %s=%q is %q", name, value, u)
			}
		}
		if t.Failed() {
			return
		}
	}
	if !slices.Equal(files, before) {
		t.Errorf("R5: the files are changed")
	}
	for _, name := range []string{"href", "src", "style", "width", "height", "start", "value", "dir", "lang", "title", "alt"} {
		if passed[name] < 30 {
			t.Errorf("only %d of %s", passed[name], name)
		}
	}
}

func TestLongTextsEnd(t *testing.T) { // R1
	const size = 1 << 20
	for _, one := range []string{"a", "1", " ", "\t", ":", "cid:", "att:", "https://", "(", "color:red;", "\"\\", "\xff", "-"} {
		s := strings.Repeat(one, size)
		if rules.Element(s) != rules.Opens || rules.Attr(s, "title") || rules.Attr("img", s) {
			t.Errorf("P18.1: many of %q", one)
		}
		for _, element := range []string{"a", "img", "ol", "li"} {
			for _, name := range mayBe(element) {
				u, is := rules.Value(everything(), some(), element, api.Attr{Name: name, Value: s})
				if len(u) > len(s) || !is && u != "" {
					t.Errorf("P18.2: many of %q are %d bytes", one, len(u))
				}
				rules.Blocked(api.Policy{}, element, api.Attr{Name: name, Value: s})
			}
		}
	}
}

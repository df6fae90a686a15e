package ent_test

import (
	"math/rand"
	"regexp"
	"strconv"
	"strings"
	"testing"
	"unicode"
	"unicode/utf8"

	"muslin/ent"
)

const bad = "\ufffd"

// names has the document's table.
func names() map[string]string {
	return map[string]string{
		"amp": "&", "lt": "<", "gt": ">", "quot": "\"", "apos": "'", "nbsp": "\u00a0", "copy": "\u00a9", "reg": "\u00ae",
		"hellip": "\u2026", "ndash": "\u2013", "mdash": "\u2014", "euro": "\u20ac", "lsquo": "\u2018", "rsquo": "\u2019", "ldquo": "\u201c", "rdquo": "\u201d",
	}
}

func holdDecode(t *testing.T, s, want string) {
	t.Helper()
	if u := ent.Decode(s); u != want {
		t.Errorf("P12.1: Decode(%q) is %q, not %q", s, u, want)
	}
}

func holdSame(t *testing.T, row ...string) {
	t.Helper()
	for _, s := range row {
		holdDecode(t, s, s)
	}
}

func TestDecodeNames(t *testing.T) { // P12.1
	for name, sign := range names() {
		s := "&" + name + ";"
		holdDecode(t, s, sign)
		holdDecode(t, "a"+s+"b", "a"+sign+"b")
		holdDecode(t, s+s+";"+s, sign+sign+";"+sign)
		holdDecode(t, "&"+s+"&", "&"+sign+"&")
		holdDecode(t, "&"+name+s, "&"+name+sign)
		holdDecode(t, "\xff"+s+"\xc2", "\xff"+sign+"\xc2")
		// what is decoded is not looked at again
		holdDecode(t, "&amp;"+name+";", "&"+name+";")
		holdDecode(t, "&#38;"+name+";", "&"+name+";")
		holdDecode(t, "&am&amp;p;"+name+";", "&am&p;"+name+";")
		holdSame(t, "&"+name, name+";", "&"+name+" ;", "& "+name+";", "&"+name+",", "&"+name+"\x00;", "&"+name+"x;", "&x"+name+";", "&"+name[1:]+";", "&"+name[:len(name)-1]+";", "&#"+name+";", "&"+strings.ToUpper(name)+";", "&"+strings.ToUpper(name[:1])+name[1:]+";", "\uff06"+name+";", "&"+name+"\uff1b", "&"+name+name+";", "&"+name+"\n;", "&"+name+"=;")
	}
}

func TestDecodeWhatIsNone(t *testing.T) { // P12.1
	holdSame(t, "", "a", "a;b", ";", "&", "&;", "&&", "&;&", "a&b", "a & b", "&a", "&a;", "&x;", "&#", "&#;", "&#x", "&#X", "&#x;", "&#X;", "&#xx41;", "&#x x;", "&x41;", "&41;", "#65;", "&#65", "&#x41", "&#65 ;", "&# 65;", "& #65;", "&#65,", "&#6 5;", "&#+65;", "&#-65;", "&#6.5;", "&#6_5;", "&#x4_1;", "&#_65;", "&#0x41;", "&#x0x41;", "&#0b1;", "&#0o7;", "&#1e1;", "&#a;", "&#4f;", "&#xg;", "&#x4g;", "&#x+4;", "&#x-4;", "&##65;", "&#\uff16;", "&#\u0666;", "&#x\uff41;", "&#65\uff1b", "&iexcl;", "&times;", "&Amp;", "&NBSP;", "&AMP;", "&hellip", "\x00\xff\xc2\xa0", "&\xff;", "&\u017f;", "&#6\x005;", "http://a/?b=c&d=e;f")
	// edges around those that are
	holdDecode(t, "&lt;&#65;&#x42;&x;", "<AB&x;")
	holdDecode(t, "&#&#65;", "&#A")
	holdDecode(t, "&#x&#x41;", "&#xA")
	holdDecode(t, "&#6&#65;5;", "&#6A5;")
	holdDecode(t, "&#65;;", "A;")
	holdDecode(t, "&&#65;&", "&A&")
	holdDecode(t, "&#38;#65;", "&#65;")
	holdDecode(t, "&#x26;lt;", "&lt;")
	holdDecode(t, "&lt&gt;", "&lt>")
}

// bySign is the sign of a number, as the chapter says it.
func bySign(n int) string {
	switch {
	case n == 0, n > 0x10ffff, 0xd800 <= n && n <= 0xdfff:
		return bad
	case 0x80 <= n && n <= 0x9f:
		return string([]rune{
			0x20ac, 0x81, 0x201a, 0x192, 0x201e, 0x2026, 0x2020, 0x2021, 0x2c6, 0x2030, 0x160, 0x2039, 0x152, 0x8d, 0x17d, 0x8f,
			0x90, 0x2018, 0x2019, 0x201c, 0x201d, 0x2022, 0x2013, 0x2014, 0x2dc, 0x2122, 0x161, 0x203a, 0x153, 0x9d, 0x17e, 0x178,
		}[n-0x80])
	}
	return string(rune(n))
}

// holdNumbers tells where numbers from first to last, a step apart, do not become what they should, in all forms.
func holdNumbers(t *testing.T, first, last, step int) {
	t.Helper()
	var decimal, small, large, want strings.Builder
	for n := first; n <= last; n += step {
		decimal.WriteString("&#" + strconv.Itoa(n) + ";")
		want.WriteString(bySign(n))
		if hex := strconv.FormatInt(int64(n), 16); len(hex) <= 6 {
			small.WriteString("&#x" + hex + ";")
			large.WriteString("&#X" + strings.ToUpper(hex) + ";")
		}
	}
	for _, s := range []string{decimal.String(), small.String(), large.String()} {
		if u := ent.Decode(s); u != want.String() {
			t.Errorf("P12.1: numbers from %x to %x, as %q ..", first, last, s[:min(len(s), 20)])
		}
	}
}

func TestDecodeNumbers(t *testing.T) { // P12.1
	const row = 0x400
	for first := 0; first < 0x112000; first += row {
		holdNumbers(t, first, first+row-1, 1)
	}
	holdNumbers(t, 0x112000, 9999999, 997)
	holdNumbers(t, 9999000, 9999999, 1)
	for n := range 0x100 {
		if u := ent.Decode("&#" + strconv.Itoa(n) + ";"); u != bySign(n) {
			t.Errorf("P12.1: %d: %q", n, u)
		}
	}
	holdDecode(t, "&#xffffff;&#xFFFFFF;&#x99999a;&#9999999;", bad+bad+bad+bad)
	holdDecode(t, "&#1114111;&#x10ffff;&#1114112;&#x110000;", "\U0010ffff\U0010ffff"+bad+bad)
	holdDecode(t, "&#55295;&#55296;&#57343;&#57344;", "\ud7ff"+bad+bad+"\ue000")
	holdDecode(t, "&#xd83d;&#xde00;", bad+bad)
	holdDecode(t, "&#127;&#128;&#129;&#159;&#160;", "\x7f\u20ac\u0081\u0178\u00a0")
	holdDecode(t, "&#65533;&#xfffe;&#xffff;&#xfeff;", bad+"\ufffe\uffff\ufeff")
}

func TestDecodeDigits(t *testing.T) { // P12.1
	for count := 1; count <= 12; count++ {
		zeros := strings.Repeat("0", count)
		decimal, hex := "&#"+zeros[1:]+"9;", zeros[1:]+"9;"
		if count <= 7 {
			holdDecode(t, decimal, "\t")
			holdDecode(t, "&#"+zeros+";", bad)
		} else {
			holdSame(t, decimal, "&#"+zeros+";", "&#"+strings.Repeat("9", count)+";")
		}
		for _, begin := range []string{"&#x", "&#X"} {
			if count <= 6 {
				holdDecode(t, begin+hex, "\t")
				holdDecode(t, begin+zeros+";", bad)
			} else {
				holdSame(t, begin+hex, begin+zeros+";", begin+strings.Repeat("f", count)+";")
			}
		}
	}
	holdDecode(t, "&#0000065;&#x000041;&#x00aB;&#X00Ab;", "AA\u00ab\u00ab")
	holdSame(t, "&#00000065;", "&#x0000041;", "&#18446744073709551681;", "&#x10000000000000041;", "&#4294967361;", "&#x100000041;")
}

// pattern is a reference as the chapter says it.
var pattern = regexp.MustCompile(`&(?:(amp|apos|hellip|lsquo|lt|nbsp|ndash|rsquo|gt|copy|mdash|ldquo|quot|reg|euro|rdquo)|#([0-9]{1,7})|#[xX]([0-9a-fA-F]{1,6}));`)

// decodeByPattern decodes as P12.1 says it, by one pattern for all references.
func decodeByPattern(s string) string {
	return pattern.ReplaceAllStringFunc(s, func(one string) string {
		m := pattern.FindStringSubmatch(one)
		if m[1] != "" {
			return names()[m[1]]
		}
		n, base := m[2], 10
		if n == "" {
			n, base = m[3], 16
		}
		number, _ := strconv.ParseInt(n, base, 64)
		return bySign(int(number))
	})
}

// eachShort hands all texts of at most so many of these pieces to look.
func eachShort(most int, look func(s string), pieces ...string) {
	row := []string{""}
	look("")
	for range most {
		var longer []string
		for _, s := range row {
			for _, piece := range pieces {
				longer = append(longer, s+piece)
				look(s + piece)
			}
		}
		row = longer
	}
}

func TestDecodeMixed(t *testing.T) { // P12.1
	hold := func(s string) {
		if u, want := ent.Decode(s), decodeByPattern(s); u != want {
			t.Fatalf("P12.1: Decode(%q) is %q, not %q", s, u, want)
		}
	}
	eachShort(6, hold, "&", "#", "x", "4", ";", "amp")
	eachShort(6, hold, "&#", "&", "X", "fF", "0", ";")
	random := rand.New(rand.NewSource(121))
	row := []string{"&", "&", "&#", "&#", "&#x", "&#X", "&lt;", "&#38;", "&#x80;", ";", ";", ";", "0", "1", "8", "9", "a", "F", "d8", "10", "amp", "lt", "nbsp", "hellip", "rdquo", "AMP", " ", "\xff", "\u00a0", "g", "x", "+", "-"}
	changed := 0
	for range 100000 {
		s := ""
		for range random.Intn(14) {
			s += row[random.Intn(len(row))]
		}
		hold(s)
		if decodeByPattern(s) != s {
			changed++
		}
	}
	if changed < 10000 {
		t.Errorf("only %d of these have references", changed)
	}
}

func holdWritten(t *testing.T, s, text, value string) {
	t.Helper()
	if u := ent.Text(s); u != text {
		t.Errorf("P12.2: Text(%q) is %q, not %q", s, u, text)
	}
	if u := ent.Value(s); u != value {
		t.Errorf("P12.2: Value(%q) is %q, not %q", s, u, value)
	}
}

func TestTextAndValue(t *testing.T) { // P12.2
	holdWritten(t, "", "", "")
	holdWritten(t, "a<b>&\"c'\u00a0", "a&lt;b&gt;&amp;\"c'&nbsp;", "a&lt;b&gt;&amp;&quot;c'&nbsp;")
	holdWritten(t, "&amp;&quot;&nbsp;&#65;", "&amp;amp;&amp;quot;&amp;nbsp;&amp;#65;", "&amp;amp;&amp;quot;&amp;nbsp;&amp;#65;")
	holdWritten(t, "&&<<>>\"\"", "&amp;&amp;&lt;&lt;&gt;&gt;\"\"", "&amp;&amp;&lt;&lt;&gt;&gt;&quot;&quot;")
	holdWritten(t, "\u00a9\u00ae\u20ac\u2026\u2013\u2014\u2018\u2019\u201c\u201d\u00e0\u00a1\u0080", "\u00a9\u00ae\u20ac\u2026\u2013\u2014\u2018\u2019\u201c\u201d\u00e0\u00a1\u0080", "\u00a9\u00ae\u20ac\u2026\u2013\u2014\u2018\u2019\u201c\u201d\u00e0\u00a1\u0080")
	holdWritten(t, "\u00a0\u00a0 \u202f\u2007\ufeff", "&nbsp;&nbsp; \u202f\u2007\ufeff", "&nbsp;&nbsp; \u202f\u2007\ufeff")
	// U+00A0 alone is one, not its bytes
	holdWritten(t, "\xc2\xc2\xa0\xa0\xc2", "\xc2&nbsp;\xa0\xc2", "\xc2&nbsp;\xa0\xc2")
	holdWritten(t, "\xa0\xc3\xa0\xc2<\xa0", "\xa0\xc3\xa0\xc2&lt;\xa0", "\xa0\xc3\xa0\xc2&lt;\xa0")
	for c := range 256 {
		b := string([]byte{byte(c)})
		text, value := b, b
		switch b {
		case "&":
			text, value = "&amp;", "&amp;"
		case "<":
			text, value = "&lt;", "&lt;"
		case ">":
			text, value = "&gt;", "&gt;"
		case "\"":
			value = "&quot;"
		}
		holdWritten(t, b, text, value)
		holdWritten(t, "a"+b+"\u00a0"+b, "a"+text+"&nbsp;"+text, "a"+value+"&nbsp;"+value)
	}
}

func TestTextOfEachSign(t *testing.T) { // P12.2
	const row = 0x400
	for first := rune(0x80); first <= unicode.MaxRune; first += row {
		s := ""
		for r := first; r < first+row; r++ {
			if r != 0xa0 && utf8.ValidRune(r) {
				s += string(r)
			}
		}
		if ent.Text(s) != s || ent.Value(s) != s {
			t.Fatalf("P12.2: signs from %x on are not as they are", first)
		}
	}
}

func TestWhatIsWrittenIsRead(t *testing.T) { // P12.3
	hold := func(s string) {
		text, value := ent.Text(s), ent.Value(s)
		if ent.Decode(text) != s || ent.Decode(value) != s {
			t.Fatalf("P12.3: %q comes back as %q and %q", s, ent.Decode(text), ent.Decode(value))
		}
		if strings.Contains(text, "<") || strings.ContainsAny(value, "<\"") {
			t.Fatalf("P12.3: %q is %q, %q", s, text, value)
		}
		for _, written := range []string{text, value} {
			if strings.Contains(pattern.ReplaceAllString(written, ""), "&") {
				t.Fatalf("P12.3: %q is written %q", s, written)
			}
		}
	}
	eachShort(5, hold, "&", "<", ">", "\"", ";", "lt", "#65", "\u00a0", "\xc2")
	random := rand.New(rand.NewSource(123))
	for n := range 300 {
		b := make([]byte, n)
		random.Read(b)
		for i := range b {
			if random.Intn(3) == 0 {
				b[i] = "&<>\"'\xc2\xa0#;x0"[random.Intn(11)]
			}
		}
		hold(string(b))
	}
}

// holdLong holds a long answer against what it should be, and tells its length alone.
func holdLong(t *testing.T, name, u, want string) {
	t.Helper()
	if u != want {
		t.Errorf("%s: many of these: %d bytes, not %d", name, len(u), len(want))
	}
}

func TestLongTextsEnd(t *testing.T) { // R1
	const size = 1 << 18
	for _, one := range []string{"&", "&#", "&#x", "&#1", "&#xf", "&amp", "&hellip", ";", "0", "x", "\xc2", "\xc2&"} {
		s := strings.Repeat(one, size)
		for _, begin := range []string{"", "&", "&#", "&#x"} {
			holdLong(t, "P12.1: "+begin+", "+one, ent.Decode(begin+s+","), begin+s+",")
		}
		holdLong(t, "P12.3: "+one, ent.Decode(ent.Text(s)), s)
		holdLong(t, "P12.3: "+one, ent.Decode(ent.Value(s)), s)
	}
	holdLong(t, "P12.1: &lt;", ent.Decode(strings.Repeat("&lt;", size)), strings.Repeat("<", size))
	holdLong(t, "P12.1: &#x10ffff;", ent.Decode(strings.Repeat("&#x10ffff;", size)), strings.Repeat("\U0010ffff", size))
	s := strings.Repeat("\"\u00a0", size)
	holdLong(t, "P12.2: Text", ent.Text(s), strings.Repeat("\"&nbsp;", size))
	holdLong(t, "P12.2: Value", ent.Value(s), strings.Repeat("&quot;&nbsp;", size))
}

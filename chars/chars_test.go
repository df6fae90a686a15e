package chars_test

import (
	"math/rand"
	"strings"
	"testing"
	"unicode/utf16"
	"unicode/utf8"

	"muslin/chars"
)

const bad = "\xef\xbf\xbd"

// labels has the document's table, row by row.
func labels() map[string][]string {
	return map[string][]string{
		"utf-8":        {"utf-8", "utf8", "unicode-1-1-utf-8"},
		"windows-1252": {"windows-1252", "cp1252", "us-ascii", "ascii", "iso-8859-1", "iso8859-1", "latin1", "l1"},
		"utf-16le":     {"utf-16le", "utf-16", "unicode", "ucs-2"},
		"utf-16be":     {"utf-16be", "unicodefffe"},
	}
}

func TestKnown(t *testing.T) { // P4.1
	for name, row := range labels() {
		for _, label := range row {
			for _, s := range []string{
				label,
				strings.ToUpper(label),
				strings.ToUpper(label[:1]) + label[1:],
				" " + label,
				label + " ",
				"\t\n\f\r " + label + " \r\f\n\t\t",
			} {
				if u, known := chars.Known(s); u != name || !known {
					t.Errorf("P4.1: Known(%q) is %q, %v", s, u, known)
				}
			}
		}
	}
}

func TestUnknown(t *testing.T) { // P4.1
	for _, s := range []string{
		"", " ", "\t\r\n\f", "x", "koi8-r", "utf", "utf-", "utf-9", "utf-7", "utf_8", "utf 8", "utf- 8", "utf-8 x", "utf-8;", "\"utf-8\"", "utf-8,utf-8", "utf-8 utf-8",
		"iso-8859", "iso-8859-15", "iso_8859-1", "iso88591", "latin-1", "latin2", "l2", "cp1251", "windows-1251", "utf-16 le", "utf16", "utf16le", "ucs2", "unicodefeff", "unicodefff", "unicodefffe1",
		"\vutf-8", "utf-8\v", "\u00a0utf-8", "utf-8\u00a0", "utf-8\u0085", "\u2003utf-8", "utf-8\x00", "\x00", "\xa0l1", "\xef\xbb\xbfutf-8",
		"u\u017f-ascii", "a\u017fcii", "i\u017fo-8859-1", "lat\u0130n1", "\u0130so-8859-1", "un\u0131code", "\uff55tf-8",
		"@utf-8", "[utf-8", "utf\r-8", "utf\n8",
	} {
		if u, known := chars.Known(s); u != "" || known {
			t.Errorf("P4.1: Known(%q) is %q, %v", s, u, known)
		}
	}
	// Case is changed of letters alone: what lies 32 behind another sign is no letter.
	for name, row := range labels() {
		for _, label := range row {
			for i := range len(label) {
				if c := label[i]; c >= 'a' {
					continue
				}
				for _, step := range []byte{32, 224} {
					s := label[:i] + string([]byte{label[i] + step}) + label[i+1:]
					if u, known := chars.Known(s); known {
						t.Errorf("P4.1: Known(%q) is %q, as %s", s, u, name)
					}
				}
			}
		}
	}
}

// wholeAt is how long the whole, shortest sequence is that s has at i; 0: there is none.
func wholeAt(s string, i int) int {
	for size, least := range []int{1: 0, 2: 0x80, 3: 0x800, 4: 0x10000} {
		if size == 0 || i+size > len(s) {
			continue
		}
		lead := [5]int{0, 0x00, 0xc0, 0xe0, 0xf0}[size]
		room := [5]int{0, 0x80, 0x20, 0x10, 0x08}[size]
		n := int(s[i]) - lead
		fits := 0 <= n && n < room
		for _, c := range []byte(s[i+1 : i+size]) {
			n = n<<6 | int(c&0x3f)
			fits = fits && c&0xc0 == 0x80
		}
		if fits && n >= least && n <= 0x10ffff && (n < 0xd800 || n > 0xdfff) {
			return size
		}
	}
	return 0
}

// validByRules makes valid as P4.2 says it, by the rules of UTF-8 itself.
func validByRules(s string) string {
	var out strings.Builder
	for i := 0; i < len(s); {
		size := wholeAt(s, i)
		if size == 0 {
			out.WriteString(bad)
			i++
			continue
		}
		out.WriteString(s[i : i+size])
		i += size
	}
	return out.String()
}

func TestValid(t *testing.T) { // P4.2
	for s, want := range map[string]string{
		"":                                "",
		"a\u00e9\u20ac\U0001f600\x00\x7f": "a\u00e9\u20ac\U0001f600\x00\x7f",
		bad:                               bad,
		"\ufeffa\ufffe\uffff":             "\ufeffa\ufffe\uffff",
		"\xe9":                            bad,
		"a\xe9b":                          "a" + bad + "b",
		"a\xc3":                           "a" + bad,
		"\xc3\xc3\xa9":                    bad + "\u00e9",
		"\x80\xbf":                        bad + bad,
		"\xe2\x82":                        bad + bad,
		"\xe2\x82a":                       bad + bad + "a",
		"\xe2\x82\xe2\x82\xac":            bad + bad + "\u20ac",
		"\xf0\x9f\x98":                    bad + bad + bad,
		"\xf0\x9f\x98a":                   bad + bad + bad + "a",
		"\xc0\x80":                        bad + bad,
		"\xc1\xbf":                        bad + bad,
		"\xe0\x9f\xbf":                    bad + bad + bad,
		"\xe0\xa0\x80":                    "\u0800",
		"\xf0\x8f\xbf\xbf":                bad + bad + bad + bad,
		"\xf0\x90\x80\x80":                "\U00010000",
		"\xed\x9f\xbf":                    "\ud7ff",
		"\xed\xa0\x80":                    bad + bad + bad,
		"\xed\xbf\xbf":                    bad + bad + bad,
		"\xee\x80\x80":                    "\ue000",
		"\xf4\x8f\xbf\xbf":                "\U0010ffff",
		"\xf4\x90\x80\x80":                bad + bad + bad + bad,
		"\xf8\x88\x80\x80\x80":            bad + bad + bad + bad + bad,
		"\xfe\xff":                        bad + bad,
		"\xed\xa0\xbd\xed\xb8\x80":        bad + bad + bad + bad + bad + bad,
	} {
		if u := chars.Valid(s); u != want {
			t.Errorf("P4.2: Valid(%q) is %q, not %q", s, u, want)
		}
	}
}

func TestValidAllShort(t *testing.T) { // P4.2
	const edges = "a\x7f\x80\x8f\x90\x9f\xa0\xbf\xc0\xc1\xc2\xdf\xe0\xe1\xed\xee\xef\xf0\xf1\xf4\xf5\xff"
	row := []string{""}
	for range 4 {
		var longer []string
		for _, s := range row {
			for i := range len(edges) {
				longer = append(longer, s+edges[i:i+1])
			}
		}
		row = longer
		for _, s := range row {
			if u, want := chars.Valid(s), validByRules(s); u != want {
				t.Fatalf("P4.2: Valid(%q) is %q, not %q", s, u, want)
			}
		}
	}
}

// windowsSigns are those of bytes 128 to 159, as P4.3 lists them.
func windowsSigns() []rune {
	return []rune{
		0x20ac, 0x81, 0x201a, 0x192, 0x201e, 0x2026, 0x2020, 0x2021, 0x2c6, 0x2030, 0x160, 0x2039, 0x152, 0x8d, 0x17d, 0x8f,
		0x90, 0x2018, 0x2019, 0x201c, 0x201d, 0x2022, 0x2013, 0x2014, 0x2dc, 0x2122, 0x161, 0x203a, 0x153, 0x9d, 0x17e, 0x178,
	}
}

// holdDecode tells where Decode is not as it is wanted.
func holdDecode(t *testing.T, label, s, want string, known bool) {
	t.Helper()
	if u, is := chars.Decode(label, s); u != want || is != known {
		t.Errorf("P4.3: Decode(%q, %q) is %q, %v, not %q, %v", label, s, u, is, want, known)
	}
}

func TestDecodeUtf8(t *testing.T) { // P4.3
	for _, s := range []string{"", "a", "\u00e9\xff", "\xed\xa0\x80", "\xef\xbb\xbfa", "\x80\xe2\x82"} {
		want := validByRules(s)
		for _, label := range []string{"utf-8", "UTF8", " unicode-1-1-utf-8\r\n"} {
			holdDecode(t, label, s, want, true)
		}
		for _, label := range []string{"", "koi8-r", "utf-7", "windows-1251", "utf-8x", "\xff"} {
			holdDecode(t, label, s, want, false)
		}
	}
}

func TestDecodeWindows(t *testing.T) { // P4.3
	for _, label := range labels()["windows-1252"] {
		for c := range 256 {
			want := string(rune(c))
			if 128 <= c && c <= 159 {
				want = string(windowsSigns()[c-128])
			}
			s := string([]byte{byte(c)})
			holdDecode(t, label, s, want, true)
			holdDecode(t, strings.ToUpper(label), "<"+s+"\xe9"+s, "<"+want+"\u00e9"+want, true)
		}
		holdDecode(t, label, "", "", true)
		holdDecode(t, label, "caf\xc3\xa9", "caf\u00c3\u00a9", true)
	}
}

// asBytes writes numbers of two bytes each, the higher one first, if big.
func asBytes(big bool, numbers ...uint16) string {
	var out []byte
	for _, n := range numbers {
		high, low := byte(n>>8), byte(n)
		if big {
			out = append(out, high, low)
		} else {
			out = append(out, low, high)
		}
	}
	return string(out)
}

// holdNumbers tells where numbers do not become what they should, with a byte left or none.
func holdNumbers(t *testing.T, numbers ...uint16) {
	t.Helper()
	want := string(utf16.Decode(numbers))
	for big, row := range map[bool][]string{false: labels()["utf-16le"], true: labels()["utf-16be"]} {
		s := asBytes(big, numbers...)
		for _, label := range row {
			holdDecode(t, label, s, want, true)
			for _, left := range []string{"\x00", "a", "\xd8", "\xff"} {
				holdDecode(t, label, s+left, want+bad, true)
			}
		}
	}
}

func TestDecodeUtf16(t *testing.T) { // P4.3
	holdDecode(t, "utf-16le", "a\x00\xac\x20\x3d\xd8\x00\xde", "a\u20ac\U0001f600", true)
	holdDecode(t, "utf-16be", "\x00a\x20\xac\xd8\x3d\xde\x00", "a\u20ac\U0001f600", true)
	holdDecode(t, "utf-16", "a\x00", "a", true)
	holdDecode(t, "unicode", "\x00a", "\u6100", true)
	holdDecode(t, "unicodefffe", "a\x00", "\u6100", true)
	holdDecode(t, "utf-16", "\xff\xfea\x00", "\ufeffa", true)
	holdDecode(t, "utf-16be", "\xff\xfe\x00a", "\ufffea", true)
	holdDecode(t, "utf-16be", "\xd8\x3d", bad, true)
	holdDecode(t, "utf-16be", "\xd8\x3d\xde", bad+bad, true)
	holdDecode(t, "utf-16be", "\xd8", bad, true)
	holdNumbers(t)
	holdNumbers(t, 0xd83d, 0x61, 0xde00)
	holdNumbers(t, 0xde00, 0xd83d)
	holdNumbers(t, 0xd83d, 0xd83d, 0xde00, 0xde00)
}

func TestDecodeUtf16EachNumber(t *testing.T) { // P4.3
	for n := range 0x10000 {
		holdNumbers(t, uint16(n))
	}
	edges := []uint16{0, 0x41, 0xd7ff, 0xd800, 0xd801, 0xd83d, 0xdbfe, 0xdbff, 0xdc00, 0xdc01, 0xde00, 0xdffe, 0xdfff, 0xe000, 0xfffd, 0xffff}
	for _, first := range edges {
		for _, second := range edges {
			for _, third := range edges {
				holdNumbers(t, first, second, third)
			}
		}
	}
	random := rand.New(rand.NewSource(16))
	for range 3000 {
		holdNumbers(t, 0xd800+uint16(random.Intn(0x400)), 0xdc00+uint16(random.Intn(0x400)))
	}
}

func TestWhatIsDecodedIsValid(t *testing.T) { // P4.4
	random := rand.New(rand.NewSource(4))
	all := []string{"", "koi8-r", "\xff"}
	for _, row := range labels() {
		all = append(all, row...)
	}
	for n := range 300 {
		b := make([]byte, n)
		random.Read(b)
		for _, label := range all {
			u, _ := chars.Decode(label, string(b))
			if !utf8.ValidString(u) {
				t.Errorf("P4.4: Decode(%q, %q) is %q, which is not valid", label, b, u)
			}
			if again := chars.Valid(u); again != u {
				t.Errorf("P4.4: %q does not stay: %q", u, again)
			}
			if again, _ := chars.Decode("utf-8", u); again != u {
				t.Errorf("P4.4: %q, decoded, does not stay: %q", u, again)
			}
		}
	}
}

func TestLongTextsEnd(t *testing.T) { // R1
	const size = 1 << 20
	s := strings.Repeat("\x80", size)
	if u := chars.Valid(s); u != strings.Repeat(bad, size) {
		t.Errorf("P4.2: many bad bytes: %d bytes", len(u))
	}
	holdLong := func(label, want string) {
		t.Helper()
		if u, known := chars.Decode(label, s); u != want || !known {
			t.Errorf("P4.3: many bytes of %s: %d bytes, %v", label, len(u), known)
		}
	}
	holdLong("l1", strings.Repeat("\u20ac", size))
	holdLong("utf-16", strings.Repeat("\u8080", size/2))
	label := strings.Repeat(" ", size) + "utf8" + strings.Repeat("\n", size)
	if u, known := chars.Known(label); u != "utf-8" || !known {
		t.Errorf("P4.1: long white around a label: %q, %v", u, known)
	}
}

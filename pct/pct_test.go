package pct_test

import (
	"math/rand"
	"net/url"
	"strconv"
	"strings"
	"testing"

	"muslin/pct"
)

const unreserved = "ABCDEFGHIJKLMNOPQRSTUVWXYZabcdefghijklmnopqrstuvwxyz0123456789-._~"

// byPercent is a byte as P3.1 writes those that do not stay.
func byPercent(c int) string {
	return "%" + strings.ToUpper(strconv.FormatInt(int64(0x100+c), 16)[1:])
}

func TestEncode(t *testing.T) { // P3.1
	for s, want := range map[string]string{
		"":                 "",
		"a b%":             "a%20b%25",
		"%41":              "%2541",
		"a+b/c":            "a%2Bb%2Fc",
		"UTF-8''x":         "UTF-8%27%27x",
		"\u00e9":           "%C3%A9",
		"\xe9":             "%E9",
		"\x00\x0f\x10\xff": "%00%0F%10%FF",
		"\r\n\t":           "%0D%0A%09",
		"@[`{/:":           "%40%5B%60%7B%2F%3A",
		unreserved:         unreserved,
	} {
		if u := pct.Encode(s); u != want {
			t.Errorf("P3.1: Encode(%q) is %q, not %q", s, u, want)
		}
	}
}

func TestEncodeEachByte(t *testing.T) { // P3.1
	for c := range 256 {
		b := string([]byte{byte(c)})
		want := b
		if !strings.Contains(unreserved, b) {
			want = byPercent(c)
		}
		if u := pct.Encode("a" + b + "z"); u != "a"+want+"z" {
			t.Errorf("P3.1: byte %d is %q", c, u)
		}
	}
}

func TestDecode(t *testing.T) { // P3.2
	for s, want := range map[string]string{
		"":              "",
		"abc":           "abc",
		"a%20b":         "a b",
		"%4a%4A":        "JJ",
		"%fF%Ff":        "\xff\xff",
		"%00":           "\x00",
		"a%c3%A9":       "a\u00e9",
		"+":             "+",
		"a+b=20_":       "a+b=20_",
		"\xff\x00":      "\xff\x00",
		"%2541":         "%41",
		"%25%34%31":     "%41",
		"%%41":          "%A",
		"%%%41":         "%%A",
		"%4%41":         "%4A",
		"%4%":           "%4%",
		"%":             "%",
		"%%":            "%%",
		"%4":            "%4",
		"a%":            "a%",
		"a%4":           "a%4",
		"%zz":           "%zz",
		"%4g%40":        "%4g@",
		"%g4%40":        "%g4@",
		"%@A%A@":        "%@A%A@",
		"%`a%a`":        "%`a%a`",
		"%/0%0/%:0%0":   "%/0%0/%:0%0",
		"% 41":          "% 41",
		"%+1%-1%4 ":     "%+1%-1%4 ",
		"%\uff11\u00b2": "%\uff11\u00b2",
		"%414":          "A4",
		"%u0041":        "%u0041",
		"%0x41":         "%0x41",
	} {
		if u := pct.Decode(s); u != want {
			t.Errorf("P3.2: Decode(%q) is %q, not %q", s, u, want)
		}
	}
}

func TestDecodeEachCode(t *testing.T) { // P3.2
	const hexes = "0123456789abcdefABCDEF"
	for high := range 256 {
		for low := range 256 {
			digits := string([]byte{byte(high), byte(low)})
			want := "%" + digits
			if strings.Contains(hexes, digits[:1]) && strings.Contains(hexes, digits[1:]) {
				n, _ := strconv.ParseUint(digits, 16, 8)
				want = string([]byte{byte(n)})
			}
			if u := pct.Decode("%" + digits); u != want {
				t.Errorf("P3.2: Decode(%q) is %q", "%"+digits, u)
			}
		}
	}
}

// decodeByPieces reads as P3.2 says it, piece by piece of what stands between per cent signs.
func decodeByPieces(s string) string {
	pieces := strings.Split(s, "%")
	out := pieces[0]
	for _, piece := range pieces[1:] {
		if len(piece) > 1 {
			if u, err := url.PathUnescape("%" + piece[:2]); err == nil {
				out += u + piece[2:]
				continue
			}
		}
		out += "%" + piece
	}
	return out
}

func TestDecodeAllShort(t *testing.T) { // P3.2
	row := []string{""}
	for range 7 {
		var longer []string
		for _, s := range row {
			for _, c := range "%4dG2" {
				longer = append(longer, s+string(c))
			}
		}
		row = longer
		for _, s := range row {
			if u, want := pct.Decode(s), decodeByPieces(s); u != want {
				t.Fatalf("P3.2: Decode(%q) is %q, not %q", s, u, want)
			}
		}
	}
}

func TestExtended(t *testing.T) { // P3.3
	for _, c := range []struct {
		s, alphabet, bytes string
		told               bool
	}{
		{"UTF-8''a%20b", "utf-8", "a b", true},
		{"iso-8859-1'en'%A3%20rates", "iso-8859-1", "\xa3 rates", true},
		{"x'en'", "x", "", true},
		{"x''", "x", "", true},
		{"''", "", "", true},
		{"''a", "", "a", true},
		{"'en'a", "", "a", true},
		{"''a'b", "", "a'b", true},
		{"a'b'c'd'e%27", "a", "c'd'e'", true},
		{"'''", "", "'", true},
		{"AZaz@[`{09'EN'AZ", "azaz@[`{09", "AZ", true},
		{" X '%' %zz%4", " x ", " %zz%4", true},
		{"a%41'%27'%2541", "a%41", "%41", true},
		{"\u00c9\u0130\u212a''\u00c9", "\u00c9\u0130\u212a", "\u00c9", true},
		{"\xff'\xff'\xff", "\xff", "\xff", true},
		{"", "", "", false},
		{"'", "", "", false},
		{"a", "", "", false},
		{"a%20b", "", "", false},
		{"a'b", "", "", false},
		{"UTF-8'a%20b", "", "", false},
		{"'a", "", "", false},
		{"a'", "", "", false},
		{"a%27%27b", "", "", false},
		{"a'%27b", "", "", false},
		{"a\u2019\u2019b", "", "", false},
		{"a\"\"b``c", "", "", false},
	} {
		if alphabet, bytes, told := pct.Extended(c.s); alphabet != c.alphabet || bytes != c.bytes || told != c.told {
			t.Errorf("P3.3: Extended(%q) is %q, %q, %v", c.s, alphabet, bytes, told)
		}
	}
}

func TestEncodedIsDecoded(t *testing.T) { // P3.4
	random := rand.New(rand.NewSource(3))
	for n := range 500 {
		b := make([]byte, n)
		random.Read(b)
		percents := strings.Repeat("%", n%5) + strings.Repeat("%4", n%7) + strings.Repeat("%41'", n%3)
		for _, s := range []string{string(b), percents, percents + string(b)} {
			encoded := pct.Encode(s)
			if u := pct.Decode(encoded); u != s {
				t.Errorf("P3.4: %q comes back as %q", s, u)
			}
			if alphabet, u, told := pct.Extended("UTF-8''" + encoded); alphabet != "utf-8" || u != s || !told {
				t.Errorf("P3.4: %q, extended, comes back as %q, %q, %v", s, alphabet, u, told)
			}
		}
	}
}

func TestLongTextsEnd(t *testing.T) { // R1
	const size = 1 << 20
	s := strings.Repeat("%", size)
	if u := pct.Decode(s); u != s {
		t.Errorf("P3.2: many %%: %d bytes", len(u))
	}
	if u := pct.Encode(s); u != strings.Repeat("%25", size) {
		t.Errorf("P3.1: many %%: %d bytes", len(u))
	}
	s = strings.Repeat("'", size)
	if _, u, told := pct.Extended(s); len(u) != size-2 || !told {
		t.Errorf("P3.3: many ': %d bytes, %v", len(u), told)
	}
}

package b64

import (
	"encoding/base64"
	"math"
	"math/rand"
	"strings"
	"testing"
)

// everyByte has each of the 256 bytes, and begins with the given one.
func everyByte(first int) string {
	var out []byte
	for i := range 256 {
		out = append(out, byte(first+i))
	}
	return string(out)
}

// samples are texts of all lengths up to 70, and of all bytes.
func samples() []string {
	random := rand.New(rand.NewSource(64))
	out := []string{everyByte(0), everyByte(1), everyByte(2)}
	for n := range 71 {
		b := make([]byte, n)
		random.Read(b)
		out = append(out, string(b), strings.Repeat("\x00", n), strings.Repeat("\xff", n))
	}
	return out
}

func TestEncode(t *testing.T) { // P1.1
	for s, want := range map[string]string{
		"":                 "",
		"H":                "SA==",
		"Hi":               "SGk=",
		"Hi!":              "SGkh",
		"Hi!H":             "SGkhSA==",
		"Hi!Hi":            "SGkhSGk=",
		"\x00":             "AA==",
		"\x00\x00":         "AAA=",
		"\x00\x00\x00":     "AAAA",
		"\xff":             "/w==",
		"\xff\xff":         "//8=",
		"\xff\xff\xff":     "////",
		"\xfb\xef\xbe":     "++++",
		"\x00\x10\x83\x10": "ABCDEA==",
		"\r\n":             "DQo=",
		"=":                "PQ==",
	} {
		if u := Encode(s); u != want {
			t.Errorf("P1.1: Encode(%q) is %q, not %q", s, u, want)
		}
	}
	for _, s := range samples() {
		if u, want := Encode(s), base64.StdEncoding.EncodeToString([]byte(s)); u != want {
			t.Errorf("P1.1: Encode(%q) is %q, not %q", s, u, want)
		}
	}
}

func TestWrap(t *testing.T) { // P1.1
	for _, c := range []struct {
		s     string
		width int
		want  string
	}{
		{"", 4, ""},
		{"", 0, ""},
		{"Hello!", 1, "S\r\nG\r\nV\r\ns\r\nb\r\nG\r\n8\r\nh"},
		{"Hello!", 0, "S\r\nG\r\nV\r\ns\r\nb\r\nG\r\n8\r\nh"},
		{"Hello!", -7, "S\r\nG\r\nV\r\ns\r\nb\r\nG\r\n8\r\nh"},
		{"Hello!", math.MinInt, "S\r\nG\r\nV\r\ns\r\nb\r\nG\r\n8\r\nh"},
		{"Hello!", 3, "SGV\r\nsbG\r\n8h"},
		{"Hello!", 4, "SGVs\r\nbG8h"},
		{"Hello!", 7, "SGVsbG8\r\nh"},
		{"Hello!", 8, "SGVsbG8h"},
		{"Hello!", 9, "SGVsbG8h"},
		{"Hello!", math.MaxInt, "SGVsbG8h"},
		{"Hi", 3, "SGk\r\n="},
		{"H", 2, "SA\r\n=="},
		{"H", 3, "SA=\r\n="},
	} {
		if u := Wrap(c.s, c.width); u != c.want {
			t.Errorf("P1.1: Wrap(%q, %d) is %q, not %q", c.s, c.width, u, c.want)
		}
	}
}

func TestWrapLines(t *testing.T) { // P1.1
	for _, s := range samples() {
		for _, width := range []int{1, 2, 5, 76} {
			all := Encode(s)
			wrapped := Wrap(s, width)
			if strings.ReplaceAll(wrapped, "\r\n", "") != all {
				t.Errorf("P1.1: Wrap(%q, %d) is not Encode with lines' ends: %q", s, width, wrapped)
			}
			lines := strings.Split(wrapped, "\r\n")
			for i, line := range lines {
				if i < len(lines)-1 && len(line) != width || len(line) > width || line == "" && all != "" {
					t.Errorf("P1.1: Wrap(%q, %d): line %d is %q", s, width, i, line)
				}
			}
		}
	}
}

func TestDecode(t *testing.T) { // P1.2
	for s, want := range map[string]string{
		"":                       "",
		"SGk=":                   "Hi",
		"SGk":                    "Hi",
		"SGkh":                   "Hi!",
		"SA==":                   "H",
		"SA":                     "H",
		"SB":                     "H",
		"SP==":                   "H",
		"SGl":                    "Hi",
		"S":                      "",
		"S===":                   "",
		"SGkhS":                  "Hi!",
		"=":                      "",
		"=SGk":                   "",
		"SGk=SGk=":               "Hi",
		"SA==SGkh":               "H",
		"S=Gk":                   "",
		"S-G k=xx":               "Hi",
		"S\r\nG\r\nk":            "Hi",
		"S\x00G\x80k\xff":        "Hi",
		" \t-_.,:;@[`{é\u2028":   "",
		"S_G-k,h!":               "Hi!",
		"@S[G`k{h/":              "Hi!",
		"++++":                   "\xfb\xef\xbe",
		"////":                   "\xff\xff\xff",
		"ABCDEFGHIJKLMNOPQRST":   "\x00\x10\x83\x10\x51\x87\x20\x92\x8b\x30\xd3\x8f\x41\x14\x93",
		"UVWXYZabcdefghijklmn":   "\x51\x55\x97\x61\x96\x9b\x71\xd7\x9f\x82\x18\xa3\x92\x59\xa7",
		"opqrstuvwxyz0123456789": "\xa2\x9a\xab\xb2\xdb\xaf\xc3\x1c\xb3\xd3\x5d\xb7\xe3\x9e\xbb\xf3",
	} {
		if u := Decode(s); u != want {
			t.Errorf("P1.2: Decode(%q) is %q, not %q", s, u, want)
		}
	}
}

func TestDecodeLeavesOutAllOthers(t *testing.T) { // P1.2
	for c := range 256 {
		letter := c < 128 && strings.ContainsRune(letters, rune(c))
		if letter || c == '=' {
			continue
		}
		if u := Decode("SG" + string([]byte{byte(c)}) + "kh"); u != "Hi!" {
			t.Errorf("P1.2: byte %d is not left out: %q", c, u)
		}
	}
}

func TestEncodedIsDecoded(t *testing.T) { // P1.3
	const between = "\x00\t\r\n -_.!\x7f\x80\xff"
	for _, s := range samples() {
		if u := Decode(Encode(s)); u != s {
			t.Errorf("P1.3: %q comes back as %q", s, u)
		}
		for _, width := range []int{-1, 1, 3, 76, 1000} {
			if u := Decode(Wrap(s, width)); u != s {
				t.Errorf("P1.3: %q, wrapped at %d, comes back as %q", s, width, u)
			}
		}
		mixed := between
		for _, letter := range Encode(s) {
			mixed += string(letter) + between
		}
		if u := Decode(mixed); u != s {
			t.Errorf("P1.3: %q, with others between, comes back as %q", s, u)
		}
	}
}

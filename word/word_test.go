package word_test

import (
	"encoding/base64"
	"math/rand"
	"strconv"
	"strings"
	"testing"
	"unicode/utf8"

	"muslin/chars"
	"muslin/word"
)

const bad = "\xef\xbf\xbd"

func holdOne(t *testing.T, s, sign string, size int) {
	t.Helper()
	if u, n := word.One(s); u != sign || n != size {
		t.Errorf("P5.1: One(%q) is %q, %d, not %q, %d", s, u, n, sign, size)
	}
}

func TestOne(t *testing.T) { // P5.1
	for s, sign := range map[string]string{
		"=?latin1?Q?caf=E9_x?=":               "caf\u00e9 x",
		"=?utf-8?B?SGk=?=":                    "Hi",
		"=?utf-8?b?SGk?=":                     "Hi",
		"=?UTF-8?B?w6k=?=":                    "\u00e9",
		"=?utf-8?B?w6?=":                      bad,
		"=?utf-8?B?SGk=SGk=?=":                "Hi",
		"=?utf-8?B?S-G_k!?=":                  "Hi",
		"=?utf-8?B?===?=":                     "",
		"=?utf-8?B??=":                        "",
		"=?utf-8?Q??=":                        "",
		"=?utf-8?q?=?=":                       "=",
		"=?utf-8?q?==?=":                      "==",
		"=?utf-8?q?=4?=":                      "=4",
		"=?utf-8?q?=zz=4?=":                   "=zz=4",
		"=?utf-8?q?==41=4=41?=":               "=A=4A",
		"=?utf-8?q?=3D41=5F=20_?=":            "=41_  ",
		"=?utf-8?q?=c3=A9=C3=a9?=":            "\u00e9\u00e9",
		"=?utf-8?q?=0A=0d=3f=3F=00?=":         "\n\r??\x00",
		"=?utf-8?q?=?==?=":                    "=",
		"=?utf-8?q?\xe9\u00e9\x00\f?=":        bad + "\u00e9\x00\f",
		"=?us-ascii?q?\xe9=E9=80?=":           "\u00e9\u00e9\u20ac",
		"=?utf-16be?b?2D3eAA==?=":             "\U0001f600",
		"=?unicode?q?a=00=00=D8?=":            "a" + bad,
		"=?ucs-2?q?a?=":                       bad,
		"=?utf-8*en?q?a?=":                    "a",
		"=?latin1*en?q?=E9?=":                 "\u00e9",
		"=?latin1*?q?=E9?=":                   "\u00e9",
		"=?latin1*a*b=\xff*?q?=E9?=":          "\u00e9",
		"=?utf-16be*x-koi?q?=00a?=":           "a",
		"=?utf-8\f?q?a?=":                     "a",
		"=?\futf-8\f*\f?q?a?=":                "a",
		"=?Unicode-1-1-UTF-8*de-AT-1996?Q??=": "",
	} {
		want := len(s)
		if s == "=?utf-8?q?=?==?=" { // it ends where it may end first
			want = len("=?utf-8?q?=?=")
		}
		for _, behind := range []string{"", "y", "=", "?=", " ", s} {
			holdOne(t, s+behind, sign, want)
		}
	}
}

func TestOneOfNone(t *testing.T) { // P5.1
	for _, s := range []string{
		"", " ", "a", "=", "?", "=?", "=??", "=???", "=????", "=????=", "==?utf-8?Q?a?=", "?utf-8?Q?a?=", "= ?utf-8?Q?a?=",
		"x=?utf-8?Q?a?=", " =?utf-8?Q?a?=", "\n=?utf-8?Q?a?=",
		"=??Q?a?=", "=?*?Q?a?=", "=?*en?Q?a?=", "=?*utf-8?Q?a?=", "=?x?Q?a?=", "=?koi8-r?Q?a?=", "=?utf-7?Q?a?=", "=?utf-8x?Q?a?=", "=?utf-8;en?Q?a?=", "=?\f?Q?a?=",
		"=?utf-8??a?=", "=?utf-8?QQ?a?=", "=?utf-8?BQ?a?=", "=?utf-8? Q?a?=", "=?utf-8?Q ?a?=", "=?utf-8?Q*?a?=", "=?utf-8?\xd1?a?=",
		"=?utf-8?Q?a?", "=?utf-8?Q?a?x=", "=?utf-8?Q?a??=", "=?utf-8?Q?a?b?=", "=?utf-8?Q?a? =", "=?utf-8?Q?a=", "=?utf-8?Q?a", "=?utf-8?Q?", "=?utf-8?Q?=", "=?utf-8?Q", "=?utf-8?Q?=3F??=", "=?utf-8?Q?=?x=",
		"=?utf-8?=?Q?a?=", "=?=?utf-8?Q?a?=", "=?utf-8?B?SGk=", "=?utf-8?a?=", "=?utf-8?Q?=\n",
	} {
		holdOne(t, s, "", 0)
	}
	const whole = "=?latin1*en?q?a=E9b?="
	for n := range len(whole) {
		holdOne(t, whole[:n], "", 0)
		holdOne(t, whole[n+1:], "", 0)
	}
}

func TestOneEachByte(t *testing.T) { // P5.1
	for c := range 256 {
		b := string([]byte{byte(c)})
		white := c == ' ' || c == '\t' || c == '\n' || c == '\r'
		// in the language, where all counts for nothing
		if s := "=?utf-8*x" + b + "y?q?a?="; white || c == '?' {
			holdOne(t, s, "", 0)
		} else {
			holdOne(t, s, "a", len(s))
		}
		// around the alphabet: only what chars.Known leaves out may stand there, if it is not white
		for _, s := range []string{"=?" + b + "utf-8?q?a?=", "=?" + b + "utf-8*x?q?a?="} {
			if c == '\f' {
				holdOne(t, s, "a", len(s))
			} else {
				holdOne(t, s, "", 0)
			}
		}
		// as the letter
		if s := "=?utf-8?" + b + "?QQ==?="; c == 'B' || c == 'b' {
			holdOne(t, s, "A", len(s))
		} else if c == 'Q' || c == 'q' {
			holdOne(t, s, "QQ==", len(s))
		} else {
			holdOne(t, s, "", 0)
		}
		// in the text
		for _, s := range []string{"=?latin1?q?x" + b + "y?=", "=?latin1?q?" + b + "?="} {
			if white || c == '?' {
				holdOne(t, s, "", 0)
				continue
			}
			inner := strings.ReplaceAll(s[len("=?latin1?q?"):len(s)-2], "_", " ")
			want, _ := chars.Decode("latin1", inner)
			holdOne(t, s, want, len(s))
		}
		if s := "=?utf-8?b?SG" + b + "k?="; white || c == '?' {
			holdOne(t, s, "", 0)
		}
		// ahead of the end
		if s := "=?utf-8?q?a?" + b; c == '=' {
			holdOne(t, s, "a", len(s))
		} else {
			holdOne(t, s, "", 0)
			holdOne(t, s+"=", "", 0)
		}
	}
}

func TestOneEachCode(t *testing.T) { // P5.1
	for high := range 256 {
		for low := range 256 {
			digits := string([]byte{byte(high), byte(low)})
			if strings.ContainsAny(digits, "? \t\r\n") {
				continue
			}
			want := "=" + strings.ReplaceAll(digits, "_", " ")
			if n, err := strconv.ParseUint(digits, 16, 8); err == nil {
				want = string([]byte{byte(n)})
			}
			s := "=?latin1?Q?" + "=" + digits + "?="
			want, _ = chars.Decode("latin1", want)
			holdOne(t, s, want, len(s))
		}
	}
}

func TestOneAlphabetLength(t *testing.T) { // P5.1
	for n := range 60 {
		for _, alphabet := range []string{"l1*" + strings.Repeat("x", n), "l1" + strings.Repeat("\f", n), "l1*" + strings.Repeat("*", n)} {
			s := "=?" + alphabet + "?q?=E9?="
			if len(alphabet) <= 40 {
				holdOne(t, s, "\u00e9", len(s))
			} else {
				holdOne(t, s, "", 0)
			}
		}
	}
	text := strings.Repeat("a", 1<<16) // a text may be as long as it likes
	holdOne(t, "=?utf-8?Q?"+text+"?=", text, len(text)+len("=?utf-8?Q??="))
}

func TestDecode(t *testing.T) { // P5.2
	const a, b, none = "=?ascii?Q?a?=", "=?ascii?Q?b?=", "=?ascii?Q??="
	for s, want := range map[string]string{
		"":                                      "",
		"a b":                                   "a b",
		" \t\r\n":                               " \t\r\n",
		"a\xff\xe2\x82":                         "a" + bad + bad + bad,
		"=?latin1?Q?caf=E9_x?=":                 "caf\u00e9 x",
		a:                                       "a",
		a + b:                                   "ab",
		a + " " + b:                             "ab",
		a + " \r\n\t" + b:                       "ab",
		a + "\n" + b + "\r" + a:                 "aba",
		a + " x " + b:                           "a x b",
		a + "x" + b:                             "axb",
		a + "\f" + b:                            "a\fb",
		a + " \v " + b:                          "a \v b",
		a + "\u00a0" + b:                        "a\u00a0b",
		a + "\x00" + b:                          "a\x00b",
		" " + a + " ":                           " a ",
		"\n" + a + " " + b + "\t":               "\nab\t",
		a + " " + a[:len(a)-1]:                  "a " + a[:len(a)-1],
		a + " =?x?Q?b?= " + b:                   "a =?x?Q?b?= b",
		a + " =?ascii?Q?x y?= " + b:             "a =?ascii?Q?x y?= b",
		"x " + a:                                "x a",
		a + " " + none + " " + b:                "ab",
		none + " " + none:                       "",
		none + " x":                             " x",
		"=?" + a:                                "=?a",
		"=" + a + "=":                           "=a=",
		"=?ascii?Q?" + a:                        "=?ascii?Q?a",
		"=?ascii?" + a:                          "=?ascii?a",
		"(" + a + ")":                           "(a)",
		"=?ascii?Q?=3D=3Fascii=3FQ=3Fa=3F=3D?=": a,
		// pieces, and words, are read each for itself
		"\xc3" + a + "\xa9":                          bad + "a" + bad,
		"\xc3" + none + "\xa9":                       bad + bad,
		"\xc3" + none + " " + none + "\xa9":          bad + bad,
		"=?utf-8?Q?=C3?= =?utf-8?Q?=A9?=":            bad + bad,
		"=?utf-8?B?ww==?==?utf-8?B?qQ==?=":           bad + bad,
		"=?utf-8?Q?=C3?=\xa9":                        bad + bad,
		"\xc3=?utf-8?Q?=A9?=":                        bad + bad,
		"=?utf-16be?Q?=D8=3D?==?utf-16be?Q?=DE=00?=": bad + bad,
	} {
		if u := word.Decode(s); u != want {
			t.Errorf("P5.2: Decode(%q) is %q, not %q", s, u, want)
		}
	}
}

// decodeByMarks decodes as P5.2 says it: first the words are found, then what stands between them is looked at.
func decodeByMarks(s string) string {
	var pieces, signs []string // each sign with the piece ahead of it
	from := 0
	for i := 0; i < len(s); {
		sign, size := word.One(s[i:])
		if size == 0 {
			i++
			continue
		}
		pieces, signs = append(pieces, s[from:i]), append(signs, sign)
		i += size
		from = i
	}
	out := ""
	for i, piece := range pieces {
		if i == 0 || strings.Count(piece, " ")+strings.Count(piece, "\t")+strings.Count(piece, "\r")+strings.Count(piece, "\n") < len(piece) {
			out += chars.Valid(piece)
		}
		out += signs[i]
	}
	return out + chars.Valid(s[from:])
}

func TestDecodeAllShort(t *testing.T) { // P5.2
	tokens := []string{"=?l1?q?a?=", "=?utf-8?B?w6k?=", "=?utf-8?q??=", "=?utf-8?q?", "?=", "=?", " ", "\r\n\t", "\xc3", "\xa9", "x"}
	row := []string{""}
	for range 5 {
		var longer []string
		for _, s := range row {
			for _, token := range tokens {
				longer = append(longer, s+token)
			}
		}
		row = longer
		for _, s := range row {
			if u, want := word.Decode(s), decodeByMarks(s); u != want {
				t.Fatalf("P5.2: Decode(%q) is %q, not %q", s, u, want)
			}
		}
	}
}

func TestEncode(t *testing.T) { // P5.3
	for s, want := range map[string]string{
		"":             "",
		"a b~":         "a b~",
		" ":            " ",
		" a \" ":       " a \" ",
		"=":            "=",
		"?=":           "?=",
		"= ?":          "= ?",
		"=a?":          "=a?",
		"=?":           "=?utf-8?B?PT8=?=",
		"a=?b":         "=?utf-8?B?YT0/Yg==?=",
		"=?l1?Q?a?=":   "=?utf-8?B?PT9sMT9RP2E/PQ==?=",
		"\u00e9":       "=?utf-8?B?w6k=?=",
		"a\n":          "=?utf-8?B?YQo=?=",
		"\t":           "=?utf-8?B?CQ==?=",
		"\x1f":         "=?utf-8?B?Hw==?=",
		"\x7f":         "=?utf-8?B?fw==?=",
		"\xff":         "=?utf-8?B?77+9?=",
		"a\xe2\x82":    "=?utf-8?B?Ye+/ve+/vQ==?=",
		"\x00":         "=?utf-8?B?AA==?=",
		bad:            "=?utf-8?B?77+9?=",
		"caf\u00e9 =?": "=?utf-8?B?Y2Fmw6kgPT8=?=",

		strings.Repeat("~", 100):            strings.Repeat("~", 100),
		strings.Repeat("\n", 30):            "=?utf-8?B?" + strings.Repeat("CgoK", 10) + "?=",
		strings.Repeat("\n", 31):            "=?utf-8?B?" + strings.Repeat("CgoK", 10) + "?= =?utf-8?B?Cg==?=",
		strings.Repeat("\n", 60):            "=?utf-8?B?" + strings.Repeat("CgoK", 10) + "?= =?utf-8?B?" + strings.Repeat("CgoK", 10) + "?=",
		strings.Repeat("\u00e9", 15):        "=?utf-8?B?" + strings.Repeat("w6nDqcOp", 5) + "?=",
		strings.Repeat("\u00e9", 16):        "=?utf-8?B?" + strings.Repeat("w6nDqcOp", 5) + "?= =?utf-8?B?w6k=?=",
		strings.Repeat("\u20ac", 11):        "=?utf-8?B?" + strings.Repeat("4oKs", 10) + "?= =?utf-8?B?4oKs?=",
		strings.Repeat("\U0001f600", 8):     "=?utf-8?B?8J+YgPCfmIDwn5iA8J+YgPCfmIDwn5iA8J+YgA==?= =?utf-8?B?8J+YgA==?=",
		strings.Repeat("\xff", 11):          "=?utf-8?B?" + strings.Repeat("77+9", 10) + "?= =?utf-8?B?77+9?=",
		strings.Repeat("\n", 29) + "\u00e9": "=?utf-8?B?" + strings.Repeat("CgoK", 9) + "Cgo=?= =?utf-8?B?w6k=?=",
		strings.Repeat("a", 29) + "=?":      "=?utf-8?B?" + strings.Repeat("YWFh", 9) + "YWE9?= =?utf-8?B?Pw==?=",
	} {
		if u := word.Encode(s); u != want {
			t.Errorf("P5.3: Encode(%q) is %q, not %q", s, u, want)
		}
	}
	for c := range 256 {
		for _, s := range []string{string([]byte{byte(c)}), "a" + string([]byte{byte(c)}) + "z"} {
			want := s
			if c < 32 || c > 126 {
				want = "=?utf-8?B?" + base64.StdEncoding.EncodeToString([]byte(chars.Valid(s))) + "?="
			}
			if u := word.Encode(s); u != want {
				t.Errorf("P5.3: Encode(%q) is %q, not %q", s, u, want)
			}
		}
	}
}

// mixed are texts of signs of all sizes, of bytes that are none, and of what could be taken for words.
func mixed() []string {
	random := rand.New(rand.NewSource(5))
	signs := []string{"a", "~", " ", "=", "?", "\n", "\u00e9", "\u20ac", "\U0001f600", "\xff", "\xe2\x82", "=?utf-8?Q?x?=", "\r\n\t"}
	out := []string{""}
	for n := range 400 {
		s := ""
		for range n % 90 {
			s += signs[random.Intn(1+n%len(signs))]
		}
		b := make([]byte, n)
		random.Read(b)
		out = append(out, s, string(b))
	}
	return out
}

func TestEncodeTakesAsManyAsFit(t *testing.T) { // P5.3
	for _, s := range mixed() {
		u := word.Encode(s)
		if u == s {
			continue
		}
		rest := chars.Valid(s)
		for _, one := range strings.Split(u, " ") {
			inner, begins := strings.CutPrefix(one, "=?utf-8?B?")
			inner, ends := strings.CutSuffix(inner, "?=")
			bytes, err := base64.StdEncoding.DecodeString(inner)
			if !begins || !ends || err != nil || len(bytes) == 0 || len(bytes) > 30 || !utf8.Valid(bytes) {
				t.Fatalf("P5.3: a word of Encode(%q) is %q", s, one)
			}
			rest = strings.TrimPrefix(rest, string(bytes))
			if _, next := utf8.DecodeRuneInString(rest); rest != "" && len(bytes)+next <= 30 {
				t.Fatalf("P5.3: a word of Encode(%q) has room for one more sign: %q", s, one)
			}
		}
		if rest != "" {
			t.Fatalf("P5.3: Encode(%q) is without %q", s, rest)
		}
	}
}

func TestWhatIsEncodedIsDecoded(t *testing.T) { // P5.4
	for _, s := range mixed() {
		if u, want := word.Decode(word.Encode(s)), chars.Valid(s); u != want {
			t.Errorf("P5.4: %q comes back as %q", s, u)
		}
		if u := word.Decode(s); !utf8.ValidString(u) {
			t.Errorf("P5.4: Decode(%q) is %q, which is not valid", s, u)
		}
		for _, letter := range []string{"q", "B"} {
			for _, alphabet := range []string{"utf-8", "l1", "utf-16", "utf-16be"} {
				one := "=?" + alphabet + "?" + letter + "?" + s + "?="
				if u := word.Decode(s + one); !utf8.ValidString(u) {
					t.Errorf("P5.4: Decode(%q) is %q, which is not valid", s+one, u)
				}
			}
		}
	}
}

func TestLongTextsEnd(t *testing.T) { // R1
	const size = 1 << 18
	hold := func(name, s, want string) {
		t.Helper()
		if u := word.Decode(s); u != want {
			t.Errorf("P5.2: %s: %d bytes", name, len(u))
		}
	}
	for _, piece := range []string{"=?", "?", "=", "=?utf-8?Q?", "=?utf-8?Q?=", " ", "=?x?Q?a?= "} {
		s := strings.Repeat(piece, size)
		hold("many "+piece, s, s)
	}
	const one = "=?l1?Q?a?="
	s := strings.Repeat(" ", size)
	hold("much white ahead", s+one, s+"a")
	hold("much white between", one+s+one, "aa")
	hold("much white behind", one+s+"=?", "a"+s+"=?")
	hold("many words", strings.Repeat(one+" ", size), strings.Repeat("a", size)+" ")
	hold("a long text", "=?l1?Q?"+strings.Repeat("_", size)+"?=", s)
	hold("a long text that does not end", "=?l1?Q?"+strings.Repeat("_", size), "=?l1?Q?"+strings.Repeat("_", size))
	if u := word.Decode(word.Encode(strings.Repeat("\u00e9", size))); u != strings.Repeat("\u00e9", size) {
		t.Errorf("P5.4: many signs: %d bytes", len(u))
	}
}

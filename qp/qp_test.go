package qp

import (
	"math/rand"
	"regexp"
	"strconv"
	"strings"
	"testing"
)

// x is a row of that letter.
func x(n int) string { return strings.Repeat("x", n) }

func TestDecode(t *testing.T) { // P2.1
	for s, want := range map[string]string{
		"":              "",
		"abc":           "abc",
		"a=3Db=\n":      "a=b",
		"a=3Db":         "a=b",
		"a=3db":         "a=b",
		"=C3=A9=c3=a9":  "\u00e9\u00e9",
		"=fF=Ff":        "\xff\xff",
		"=00=0A=0D":     "\x00\n\r",
		"=3D3D":         "=3D",
		"\xe9\x00\x7f_": "\xe9\x00\x7f_",
		// soft ends
		"a=\nb":          "ab",
		"a=\r\nb":        "ab",
		"a= \t\r\nb":     "ab",
		"a=\t \nb":       "ab",
		"a=\n":           "a",
		"a=\n\nb":        "a\nb",
		"a=\n=\nb":       "ab",
		"a =\nb":         "a b",
		"a =\n \nb":      "a \nb",
		"a=\n b":         "a b",
		"=\n=41":         "A",
		"=3=\nD":         "=3D",
		"==\n41":         "=41",
		"=\r\r\n":        "=\r\r\n",
		"=\n\r\n":        "\r\n",
		"= \n=\t\r\nend": "end",
		// what is no code stands for itself
		"=":       "=",
		"==":      "==",
		"=4":      "=4",
		"=4 ":     "=4",
		"=zz":     "=zz",
		"=4g":     "=4g",
		"=g4":     "=g4",
		"=@A":     "=@A",
		"=A`":     "=A`",
		"=/0=0:":  "=/0=0:",
		"=G0":     "=G0",
		"= 41":    "= 41",
		"= x":     "= x",
		"=\rb":    "=\rb",
		"= ":      "=",
		"=\t":     "=",
		"==41":    "=A",
		"=4=41":   "=4A",
		"=\xc3A":  "=\xc3A",
		"=A\xc3":  "=A\xc3",
		"=-1=+1=": "=-1=+1=",
		// white at a line's end, and at the end of all
		"a \t\nb":        "a\nb",
		"a\t \r\nb":      "a\r\nb",
		" \r\n":          "\r\n",
		" \n \n ":        "\n\n",
		"a  ":            "a",
		"a\t":            "a",
		"  ":             "",
		"a b":            "a b",
		" \ta":           " \ta",
		"a\rb":           "a\rb",
		"a \r":           "a \r",
		"a \rb\n":        "a \rb\n",
		"a \r\r\n":       "a \r\r\n",
		"a\v\f\n":        "a\v\f\n",
		"a=20\n":         "a \n",
		"a=20=09 \t\r\n": "a \t\r\n",
		"a=20":           "a ",
		"a =20":          "a  ",
		"a =20 ":         "a  ",
		"a \n\tb \t":     "a\n\tb",
		"a=0A b":         "a\n b",
		"a =0A":          "a \n",
	} {
		if u := Decode(s); u != want {
			t.Errorf("P2.1: Decode(%q) is %q, not %q", s, u, want)
		}
	}
}

// asPattern reads as P2.1 says it, by a pattern: its second group is what stays of white ahead of an end.
var asPattern = regexp.MustCompile(`=([0-9A-Fa-f]{2})|=[ \t]*\r?\n|[ \t]+(\r?\n|\z)`)

func decodeByPattern(s string) string {
	return asPattern.ReplaceAllStringFunc(s, func(all string) string {
		found := asPattern.FindStringSubmatch(all)
		if found[1] != "" {
			n, _ := strconv.ParseUint(found[1], 16, 8)
			return string([]byte{byte(n)})
		}
		return found[2]
	})
}

func TestDecodeAllShort(t *testing.T) { // P2.1
	const signs = "=4dG \t\r\n"
	row := []string{""}
	for range 6 {
		var longer []string
		for _, s := range row {
			for _, c := range signs {
				longer = append(longer, s+string(c))
			}
		}
		row = longer
		for _, s := range row {
			if u, want := Decode(s), decodeByPattern(s); u != want {
				t.Fatalf("P2.1: Decode(%q) is %q, not %q", s, u, want)
			}
		}
	}
}

func TestDecodeEachCode(t *testing.T) { // P2.1
	const small = "0123456789abcdef"
	for high := range 16 {
		for low := range 16 {
			want := string([]byte{byte(high*16 + low)})
			code := "=" + small[high:high+1] + small[low:low+1]
			if u := Decode(code); u != want {
				t.Errorf("P2.1: Decode(%q) is %q", code, u)
			}
			if u := Decode(strings.ToUpper(code)); u != want {
				t.Errorf("P2.1: Decode(%q) is %q", strings.ToUpper(code), u)
			}
		}
	}
	for c := range 256 {
		b := string([]byte{byte(c)})
		if strings.Contains(small+"ABCDEF\n", b) { // a line feed behind a = is left out with it
			continue
		}
		for _, s := range []string{"=" + b + "1.", "=1" + b + "."} {
			if u := Decode(s); u != s {
				t.Errorf("P2.1: Decode(%q) is %q", s, u)
			}
		}
	}
}

func TestDecodeLongWhite(t *testing.T) { // R1: what is long ends, too
	s := strings.Repeat(" ", 1<<20)
	if u := Decode(s + "x" + s); u != s+"x" {
		t.Errorf("P2.1: long white: %d bytes", len(u))
	}
	s = strings.Repeat("= ", 1<<19)
	if u := Decode(s); u != s[:len(s)-1] {
		t.Errorf("P2.1: many =: %d bytes", len(u))
	}
}

func TestEncode(t *testing.T) { // P2.2
	for s, want := range map[string]string{
		"":             "",
		"a b":          "a b",
		"a ":           "a=20",
		" ":            "=20",
		"  ":           " =20",
		" a":           " a",
		"a=b":          "a=3Db",
		"\n\xe9\t":     "=0A=E9=09",
		"a\r\nb":       "a=0D=0Ab",
		"a \n":         "a =0A",
		"\x00\x1f\x7f": "=00=1F=7F",
		"!~<>":         "!~<>",
		"\x80\xab\xff": "=80=AB=FF",
		// breaks
		x(75):               x(75),
		x(76):               x(75) + "=\nx",
		x(150):              x(75) + "=\n" + x(75),
		x(151):              x(75) + "=\n" + x(75) + "=\nx",
		x(72) + "\n":        x(72) + "=0A",
		x(72) + "\ny":       x(72) + "=0A=\ny",
		x(73) + "\n":        x(73) + "=\n=0A",
		x(74) + "\n":        x(74) + "=\n=0A",
		x(75) + "=":         x(75) + "=\n=3D",
		x(72) + "\n" + "\n": x(72) + "=0A=\n=0A",
		// blanks ahead of breaks
		x(74) + " y":            x(74) + "=20=\ny",
		x(73) + " y":            x(73) + " y",
		x(73) + " \n":           x(73) + "=20=\n=0A",
		x(73) + "  y":           x(73) + " =20=\ny",
		x(72) + "  \n":          x(72) + " =20=\n=0A",
		x(75) + " y":            x(75) + "=\n y",
		x(74) + "\t" + "y":      x(74) + "=\n=09y",
		x(74) + " " + x(75):     x(74) + "=20=\n" + x(75),
		x(74) + " " + x(76):     x(74) + "=20=\n" + x(75) + "=\nx",
		strings.Repeat(" ", 75): strings.Repeat(" ", 73) + "=20=\n=20",
		strings.Repeat(" ", 76): strings.Repeat(" ", 74) + "=20=\n=20",
		// a blank at the end of all is three bytes long from the first
		x(72) + " ":  x(72) + "=20",
		x(73) + " ":  x(73) + "=\n=20",
		x(74) + " ":  x(74) + "=\n=20",
		x(75) + " ":  x(75) + "=\n=20",
		x(74) + "  ": x(74) + "=20=\n=20",
	} {
		if u := Encode(s); u != want {
			t.Errorf("P2.2: Encode(%q) is %q, not %q", s, u, want)
		}
	}
}

func TestEncodeEachByte(t *testing.T) { // P2.2
	const digits = "0123456789ABCDEF"
	for c := range 256 {
		b := string([]byte{byte(c)})
		want := b
		if c < 32 || c > 126 || c == '=' {
			want = "=" + digits[c/16:c/16+1] + digits[c%16:c%16+1]
		}
		if u := Encode("a" + b + "z"); u != "a"+want+"z" {
			t.Errorf("P2.2: byte %d is %q", c, u)
		}
	}
}

// holdLines tells what of an encoded text is not as P2.3 says.
func holdLines(t *testing.T, s string) {
	t.Helper()
	encoded := Encode(s)
	if u := Decode(encoded); u != s {
		t.Errorf("P2.3: %q comes back as %q", s, u)
	}
	lines := strings.Split(encoded, "\n")
	for i, line := range lines {
		if len(line) > 78 {
			t.Errorf("P2.3: a line of %q has %d bytes", s, len(line))
		}
		broken := i < len(lines)-1
		if broken && !strings.HasSuffix(line, "=") {
			t.Errorf("P2.3: a line of %q has no = at its end: %q", s, line)
		}
		if strings.HasSuffix(strings.TrimSuffix(line, "="), " ") {
			t.Errorf("P2.2: a line of %q has a blank at its end: %q", s, line)
		}
		for _, c := range []byte(line) {
			if c < 32 || c > 126 {
				t.Errorf("P2.3: byte %d is in a line of %q", c, s)
			}
		}
	}
}

func TestEncodedIsDecoded(t *testing.T) { // P2.3
	random := rand.New(rand.NewSource(2))
	for _, signs := range []string{"x", " ", "x ", "x \n", "x=\r\n\t \xe9", "=0A\n"} {
		for n := range 240 {
			b := make([]byte, n)
			for i := range b {
				b[i] = signs[random.Intn(len(signs))]
			}
			holdLines(t, string(b))
		}
	}
	for n := range 300 {
		b := make([]byte, n)
		random.Read(b)
		holdLines(t, string(b))
	}
}

func TestLongestLine(t *testing.T) { // P2.3
	line, _, _ := strings.Cut(Encode(x(74)+" y"), "\n")
	if len(line) != 78 {
		t.Errorf("P2.3: the longest line has %d bytes", len(line))
	}
}

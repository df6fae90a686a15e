package lines_test

import (
	"math/rand"
	"regexp"
	"slices"
	"strconv"
	"strings"
	"testing"

	"muslin/api"
	"muslin/lines"
)

// fields makes fields of names and values by turns.
func fields(row ...string) []api.Field {
	var out []api.Field
	for i := 0; i < len(row); i += 2 {
		out = append(out, api.Field{Name: row[i], Value: row[i+1]})
	}
	return out
}

// allShort are all texts of at most so many of these pieces.
func allShort(most int, pieces ...string) []string {
	row := []string{""}
	out := []string{""}
	for range most {
		var longer []string
		for _, s := range row {
			for _, piece := range pieces {
				longer = append(longer, s+piece)
			}
		}
		row = longer
		out = append(out, row...)
	}
	return out
}

func TestCut(t *testing.T) { // P6.1
	for s, want := range map[string][]string{
		"":                 nil,
		"a":                {"a"},
		"a\n":              {"a"},
		"a\r\n":            {"a"},
		"a\nb":             {"a", "b"},
		"a\n\n":            {"a", ""},
		"\n":               {""},
		"\r\n":             {""},
		"\n\n":             {"", ""},
		"\r":               {"\r"},
		"\r\r":             {"\r\r"},
		"a\rb\n":           {"a\rb"},
		"a\r\r\n":          {"a\r"},
		"a\n\r":            {"a", "\r"},
		"\r\n\r":           {"", "\r"},
		"a\r\n\nb\r":       {"a", "", "b\r"},
		" a \n\tb\t\n":     {" a ", "\tb\t"},
		"\xff\x00\n\u2028": {"\xff\x00", "\u2028"},
		"a\vb\fc\u0085d":   {"a\vb\fc\u0085d"},
	} {
		if l := lines.Cut(s); !slices.Equal(l, want) {
			t.Errorf("P6.1: Cut(%q) is %q, not %q", s, l, want)
		}
	}
}

// cutByEnds cuts as P6.1 says it: first lines with their ends, then without.
func cutByEnds(s string) []string {
	var out []string
	for _, line := range strings.SplitAfter(s, "\n") {
		if strings.HasSuffix(line, "\r\n") {
			out = append(out, line[:len(line)-2])
		} else if strings.HasSuffix(line, "\n") {
			out = append(out, line[:len(line)-1])
		} else if line != "" {
			out = append(out, line)
		}
	}
	return out
}

func TestCutAllShort(t *testing.T) { // P6.1
	for _, s := range allShort(7, "a", "\r", "\n", " ") {
		if l, want := lines.Cut(s), cutByEnds(s); !slices.Equal(l, want) {
			t.Fatalf("P6.1: Cut(%q) is %q, not %q", s, l, want)
		}
	}
}

func holdHead(t *testing.T, s string, want []api.Field, body string) {
	t.Helper()
	if l, b := lines.Head(s); !slices.Equal(l, want) || b != body {
		t.Errorf("P6.2: Head(%q) is %q, %q, not %q, %q", s, l, b, want, body)
	}
}

func TestHead(t *testing.T) { // P6.2
	// where the header ends
	holdHead(t, "", nil, "")
	holdHead(t, "\n", nil, "")
	holdHead(t, "\r\n", nil, "")
	holdHead(t, "\nA: b\n", nil, "A: b\n")
	holdHead(t, "\n\n\r\n", nil, "\n\r\n")
	holdHead(t, "A: b", fields("A", "b"), "")
	holdHead(t, "A: b\n", fields("A", "b"), "")
	holdHead(t, "A: b\n\n", fields("A", "b"), "")
	holdHead(t, "A: b\n\nc", fields("A", "b"), "c")
	holdHead(t, "A: b\r\n\r\nc\r\n\r\nd", fields("A", "b"), "c\r\n\r\nd")
	holdHead(t, "A: b\n\r\nc", fields("A", "b"), "c")
	holdHead(t, "A: b\n\rc\n\nd", fields("A", "b"), "d")
	holdHead(t, "A: b\n\r\r\n\nd", fields("A", "b"), "d")
	holdHead(t, "A: b\n\r", fields("A", "b"), "")
	holdHead(t, "A: b\n \n\nc", fields("A", "b"), "c")
	holdHead(t, "A: b\n\t\r\nC: d\n\ne", fields("A", "b", "C", "d"), "e")
	// lines that belong to the one ahead
	holdHead(t, "A: b\n c\n\td\n", fields("A", "b c\td"), "")
	holdHead(t, "A: b \n\tc \n", fields("A", "b \tc"), "")
	holdHead(t, "A:\n b\n", fields("A", "b"), "")
	holdHead(t, "A:\n \n\t\n b\n  \n", fields("A", "b"), "")
	holdHead(t, "A: b\n \n c\n", fields("A", "b  c"), "")
	holdHead(t, "A: b\r\n c\r\n", fields("A", "b c"), "")
	holdHead(t, "A: b\n C: d\n", fields("A", "b C: d"), "")
	holdHead(t, " A: b\n", nil, "")
	holdHead(t, "\tx\n y\nA: b", fields("A", "b"), "")
	holdHead(t, "bad\n more\n more\nA: b\n", fields("A", "b"), "")
	holdHead(t, "A: b\nbad\n more\n: x\n more\nC: d\n more", fields("A", "b", "C", "d more"), "")
	holdHead(t, "A: b\n\rbad\n more\n", fields("A", "b"), "")
	holdHead(t, "A: b\n\vbad\n\fbad\n\u00a0c\n", fields("A", "b"), "")
	// names
	holdHead(t, "A \t : b\n", fields("A", "b"), "")
	holdHead(t, "A:b\nA:c\na:d\n", fields("A", "b", "A", "c", "a", "d"), "")
	holdHead(t, "!#-9;<=>?@[]~\"',./: x\n", fields("!#-9;<=>?@[]~\"',./", "x"), "")
	holdHead(t, "A b: c\nA\tb: c\n: d\n \t: e\n:\n", nil, "")
	holdHead(t, "X-\xe9: z\nX\x00: z\nX\x7f: z\nX\x1f: z\nX\r: z\nX\u00a0: z\nX\v: z\nX\f: z\n\ny", nil, "y")
	holdHead(t, "no colon\nA\nA;b\n", nil, "")
	// values
	holdHead(t, "A:\nB: \nC:\t \t\n\n", fields("A", "", "B", "", "C", ""), "")
	holdHead(t, "A:b:c: d\nB::\nC:: :\n", fields("A", "b:c: d", "B", ":", "C", ": :"), "")
	holdHead(t, "A: \t b\tc d\t \n", fields("A", "b\tc d"), "")
	holdHead(t, "A: \r b \r\r\n", fields("A", "\r b \r"), "")
	holdHead(t, "A: \v\u00a0b\xff\x00\f\n", fields("A", "\v\u00a0b\xff\x00\f"), "")
}

func TestHeadEachByteOfAName(t *testing.T) { // P6.2
	for c := range 256 {
		b := string([]byte{byte(c)})
		name := "x" + b + "y"
		if c == ':' {
			holdHead(t, name+": v\n", fields("x", "y: v"), "")
		} else if 33 <= c && c <= 126 {
			holdHead(t, name+": v\n", fields(name, "v"), "")
			holdHead(t, b+": v\n", fields(b, "v"), "")
		} else if c != '\n' {
			holdHead(t, name+": v\n", nil, "")
			holdHead(t, b+": v\n", nil, "")
		}
	}
}

// headAtEmptyLine finds the first empty line, and fieldAlone reads a field's first line.
var (
	headAtEmptyLine = regexp.MustCompile(`(?:\A|\n)(\r?\n)`)
	fieldAlone      = regexp.MustCompile(`(?s)\A([!-9;-~]+)[ \t]*:(.*)\z`)
)

// headByGroups reads as P6.2 says it: first lines are put into groups, then each group is looked at.
func headByGroups(s string) ([]api.Field, string) {
	header, body := s, ""
	if at := headAtEmptyLine.FindStringSubmatchIndex(s); at != nil {
		header, body = s[:at[2]], s[at[3]:]
	}
	var groups [][]string
	for _, line := range cutByEnds(header) {
		if line[0] != ' ' && line[0] != '\t' {
			groups = append(groups, nil)
		}
		if len(groups) > 0 {
			groups[len(groups)-1] = append(groups[len(groups)-1], line)
		}
	}
	var out []api.Field
	for _, group := range groups {
		if found := fieldAlone.FindStringSubmatch(group[0]); found != nil {
			value := found[2] + strings.Join(group[1:], "")
			out = append(out, fields(found[1], strings.Trim(value, "\t "))...)
		}
	}
	return out[:min(len(out), 500)], body
}

func TestHeadAllShort(t *testing.T) { // P6.2
	for _, s := range append(allShort(7, "A", ":", " ", "\r", "\n"), allShort(5, "A", ": b", "\t", "\r\n", "\nC:d", "\n", "\x7f")...) {
		want, body := headByGroups(s)
		if l, b := lines.Head(s); !slices.Equal(l, want) || b != body {
			t.Fatalf("P6.2: Head(%q) is %q, %q, not %q, %q", s, l, b, want, body)
		}
	}
}

func TestHeadOfManyFields(t *testing.T) { // P6.2
	for _, n := range []int{499, 500, 501, 502, 1200} {
		s := ""
		var want []api.Field
		for i := range n {
			name := "A" + strconv.Itoa(i)
			s += "bad\n" + name + ": b\n c\n"
			want = append(want, fields(name, "b c")...)
		}
		want = want[:min(n, 500)]
		holdHead(t, s+"\nbody", want, "body")
		holdHead(t, s+"bad\n more\nlast", want, "")
		if n >= 500 {
			holdHead(t, s+"X: y\n z\n\nbody", want, "body")
		}
	}
}

func TestGet(t *testing.T) { // P6.3
	l := fields("To", "x", "to", "y", "X-A", "", "x-a", "z", "", "none", "[@`{", "s", "\u00c9\xff", "e", "K", "k")
	for _, c := range []struct {
		name, value string
		is          bool
	}{
		{"To", "x", true}, {"TO", "x", true}, {"to", "x", true}, {"tO", "x", true},
		{"X-A", "", true}, {"x-a", "", true}, {"", "none", true},
		{"[@`{", "s", true}, {"{`@[", "", false}, {"{@`[", "", false}, {"[``{", "", false},
		{"\u00c9\xff", "e", true}, {"\u00e9\xff", "", false}, {"\u00c9\xdf", "", false},
		{"k", "k", true}, {"\u212a", "", false},
		{"from", "", false}, {"T", "", false}, {"To ", "", false}, {" To", "", false}, {"To:", "", false}, {"Tox", "", false},
	} {
		if v, is := lines.Get(l, c.name); v != c.value || is != c.is {
			t.Errorf("P6.3: Get of %q is %q, %v", c.name, v, is)
		}
	}
	for _, name := range []string{"", "To"} {
		if v, is := lines.Get(nil, name); v != "" || is {
			t.Errorf("P6.3: Get of %q of nothing is %q, %v", name, v, is)
		}
	}
}

func holdWrite(t *testing.T, l []api.Field, body, want string, errno api.Errno) {
	t.Helper()
	if s, e := lines.Write(l, body); s != want || e != errno {
		t.Errorf("P6.4: Write(%q, %q) is %q, %d, not %q, %d", l, body, s, e, want, errno)
	}
}

func TestWrite(t *testing.T) { // P6.4
	holdWrite(t, nil, "", "\r\n", api.OK)
	holdWrite(t, nil, "A: b", "\r\nA: b", api.OK)
	holdWrite(t, fields("A", "b"), "c", "A: b\r\n\r\nc", api.OK)
	holdWrite(t, fields("A", ""), "", "A: \r\n\r\n", api.OK)
	holdWrite(t, fields("To", "x", "to", "y z", "To", "x"), "\n\xff\r\n", "To: x\r\nto: y z\r\nTo: x\r\n\r\n\n\xff\r\n", api.OK)
	holdWrite(t, fields("A", "\v\u00a0\xff\x00: b\tc \f"), "", "A: \v\u00a0\xff\x00: b\tc \f\r\n\r\n", api.OK)
	for c := range 256 {
		b := string([]byte{byte(c)})
		for _, name := range []string{b, b + "y", "x" + b, "x" + b + "y"} {
			if c < 33 || c > 126 || c == ':' {
				holdWrite(t, fields("A", "b", name, "v"), "c", "", api.ErrArg)
			} else {
				holdWrite(t, fields("A", "b", name, "v"), "c", "A: b\r\n"+name+": v\r\n\r\nc", api.OK)
			}
		}
		for i, value := range []string{b, b + "y", "x" + b, "x" + b + "y"} {
			if c == '\n' || c == '\r' || i < 3 && (c == ' ' || c == '\t') {
				holdWrite(t, fields("A", "b", "N", value), "c", "", api.ErrArg)
			} else {
				holdWrite(t, fields("A", "b", "N", value), "c", "A: b\r\nN: "+value+"\r\n\r\nc", api.OK)
			}
		}
	}
	for _, f := range []api.Field{{}, {Value: "v"}, {Name: "a b"}, {Name: "a:"}, {Name: "a", Value: "b\r\n c"}, {Name: "a", Value: " "}} {
		holdWrite(t, []api.Field{f}, "c", "", api.ErrArg)
	}
}

func TestWriteOfManyFields(t *testing.T) { // P6.4, R2
	const one = "A: b\r\n"
	for _, n := range []int{499, 500} {
		holdWrite(t, slices.Repeat(fields("A", "b"), n), "c", strings.Repeat(one, n)+"\r\nc", api.OK)
	}
	for _, n := range []int{501, 502, 5000} {
		l := slices.Repeat(fields("A", "b"), n)
		holdWrite(t, l, "c", "", api.ErrFull)
		for _, at := range []int{0, 499, 500, n - 1} {
			for _, wrong := range []api.Field{{}, {Name: "A", Value: "b "}} {
				withWrong := slices.Clone(l)
				withWrong[at] = wrong
				holdWrite(t, withWrong, "c", "", api.ErrArg)
			}
		}
	}
}

func TestWhatIsWrittenIsRead(t *testing.T) { // P6.5
	random := rand.New(rand.NewSource(6))
	text := func(signs string, most int) string {
		b := make([]byte, random.Intn(most))
		for i := range b {
			b[i] = signs[random.Intn(len(signs))]
		}
		return string(b)
	}
	for n := range 501 {
		var l []api.Field
		for range n {
			value := strings.Trim(text("ab:; \t\v\f\x00\xff\xc3\xa9=?", 12), " \t")
			l = append(l, fields("N"+text("aZ09-!~;[", 5), value)...)
		}
		body := text("a:\r\n \t\xff", 20)
		s, e := lines.Write(l, body)
		if e != api.OK {
			t.Fatalf("P6.5: Write(%q, %q): %d", l, body, e)
		}
		if back, b := lines.Head(s); !slices.Equal(back, l) || b != body {
			t.Fatalf("P6.5: %q, %q comes back as %q, %q", l, body, back, b)
		}
	}
}

func TestAnswersAreOnesOwn(t *testing.T) { // R5, R6
	const s = "A: b\n c\nD: e\n\nf\ng"
	l := lines.Cut(s)
	for i := range l {
		l[i] = "x"
	}
	if again := lines.Cut(s); !slices.Equal(again, cutByEnds(s)) {
		t.Errorf("R6: Cut(%q) is %q now", s, again)
	}
	head, _ := lines.Head(s)
	for i := range head {
		head[i] = api.Field{}
	}
	holdHead(t, s, fields("A", "b c", "D", "e"), "f\ng")
	given := fields("A", "b", "C", "d", "e", "f")[:2]
	kept := slices.Clone(given[:3])
	lines.Write(given, "x")
	lines.Get(given, "c")
	if !slices.Equal(given[:3], kept) {
		t.Errorf("R5: what was handed in is %q now", given[:3])
	}
}

func TestLongTextsEnd(t *testing.T) { // R1
	const size = 1 << 20
	if l := lines.Cut(strings.Repeat("\r\n", size)); len(l) != size || l[size-1] != "" {
		t.Errorf("P6.1: many lines: %d", len(l))
	}
	if l, _ := lines.Head("A: b" + strings.Repeat("\n c", size)); len(l) != 1 || l[0].Value != "b"+strings.Repeat(" c", size) {
		t.Errorf("P6.2: many lines of one field: %d", len(l))
	}
	if l, b := lines.Head(strings.Repeat("A:\n", size) + "\nx"); len(l) != 500 || b != "x" {
		t.Errorf("P6.2: many fields: %d, %q", len(l), b)
	}
	if l, b := lines.Head(strings.Repeat(" ", size) + ":\n\nx"); len(l) != 0 || b != "x" {
		t.Errorf("P6.2: much white: %d, %q", len(l), b)
	}
}

package css_test

import (
	"math/rand"
	"regexp"
	"slices"
	"strings"
	"testing"

	"muslin/css"
)

// names has the document's list.
func names() []string {
	return strings.Split("background-color, border, border-bottom, border-collapse, border-color, border-left, border-right, border-spacing, border-style, border-top, border-width, color, direction, font-size, font-style, font-weight, height, letter-spacing, line-height, list-style-type, margin, margin-bottom, margin-left, margin-right, margin-top, max-width, padding, padding-bottom, padding-left, padding-right, padding-top, text-align, text-decoration, text-indent, text-transform, vertical-align, white-space, width", ", ")
}

// each hands all bytes to look, as texts.
func each(look func(c int, b string)) {
	for c := range 256 {
		look(c, string([]byte{byte(c)}))
	}
}

func isWhite(c int) bool {
	return strings.IndexByte(" \t\n\f\r", byte(c)) >= 0
}

// isPlain tells whether a value may have a byte.
func isPlain(c int) bool {
	return 'a' <= c && c <= 'z' || 'A' <= c && c <= 'Z' || '0' <= c && c <= '9' || strings.IndexByte(" #.%,-+!", byte(c)) >= 0
}

// lower lowers A to Z alone.
func lower(s string) string {
	out := []byte(s)
	for i, c := range out {
		if i := strings.IndexByte("ABCDEFGHIJKLMNOPQRSTUVWXYZ", c); i >= 0 {
			c = "abcdefghijklmnopqrstuvwxyz"[i]
		}
		out[i] = c
	}
	return string(out)
}

// holdCut holds a style against its declarations, given by names and values by turns.
func holdCut(t *testing.T, s string, row ...string) {
	t.Helper()
	var want [][2]string
	for i := 0; i < len(row); i += 2 {
		want = append(want, [2]string{row[i], row[i+1]})
	}
	if l := css.Cut(s); !slices.Equal(l, want) {
		t.Errorf("P17.1: Cut(%q) is %q, not %q", s, l, want)
	}
}

func holdSafe(t *testing.T, name, value string, want bool) {
	t.Helper()
	if css.Safe(name, value) != want {
		t.Errorf("P17.2: Safe(%q, %q) is not %v", name, value, want)
	}
}

func holdClean(t *testing.T, s, want string) {
	t.Helper()
	if u := css.Clean(s); u != want {
		t.Errorf("P17.3: Clean(%q) is %q, not %q", s, u, want)
	}
}

func TestCutNamesAndValues(t *testing.T) { // P17.1
	for _, s := range []string{"", " ", ";", ";;;", "a", "a;b", ":", "::", ":a", " :a", "a:", "a: ", "a:\t\n\f\r ;", " : ; : ", ":a;b:;c", ":;a:;:b;", "; ; a ; :", "a;:b", ":b:c", " \r:b:c"} {
		holdCut(t, s)
	}
	holdCut(t, "a:b", "a", "b")
	holdCut(t, "a:b;", "a", "b")
	holdCut(t, ";a:b", "a", "b")
	holdCut(t, ";;a:b;;c:d;;", "a", "b", "c", "d")
	holdCut(t, "a:b;x;c:d;:y;z:;e:f", "a", "b", "c", "d", "e", "f")
	holdCut(t, "a:b;a:b;A:c", "a", "b", "a", "b", "a", "c")
	holdCut(t, "COLOR:Red", "color", "Red")
	holdCut(t, "a::", "a", ":")
	holdCut(t, "a:b:c:d", "a", "b:c:d")
	holdCut(t, "a:b:;c::d", "a", "b:", "c", ":d")
	holdCut(t, "\t\n\f\r a b \t:\n c \t d \f\r;", "a b", "c \t d")
	holdCut(t, "a\n:b\n;\nc\n:\nd", "a", "b", "c", "d")
	holdCut(t, "a b:c", "a b", "c")
	holdCut(t, "\u00c9\u212a\u0130Z\xff:\u00c9\xff", "\u00c9\u212a\u0130z\xff", "\u00c9\xff")
	holdCut(t, "*a:b", "*a", "b")
	// a remark is none to a style's declarations
	holdCut(t, "/* x:y */a:b;c/*;d:e*/:f", "/* x", "y */a:b", "d", "e*/:f")
	each(func(c int, b string) {
		at := b
		if isWhite(c) {
			at = ""
		}
		switch c {
		case ':', ';', '"', '\'', '(', ')':
			return
		}
		holdCut(t, b+"n"+b+":"+b+"v"+b, lower(at+"n"+at), at+"v"+at)
		holdCut(t, "n"+b+"n:v"+b+"v", lower("n"+b+"n"), "v"+b+"v")
		if at == "" {
			holdCut(t, b+":v")
			holdCut(t, "n:"+b)
		} else {
			holdCut(t, b+":"+b, lower(b), b)
			holdCut(t, b+b+":"+b+b, lower(b+b), b+b)
		}
	})
}

func TestCutQuotes(t *testing.T) { // P17.1
	for sign, other := range map[string]string{`"`: `'`, `'`: `"`} {
		q := func(s string) string { return strings.NewReplacer("Q", sign, "O", other).Replace(s) }
		holdOne := func(row ...string) {
			t.Helper()
			for _, s := range row {
				holdCut(t, q("a:"+s), "a", q(s))
				holdCut(t, q("y:z;a:"+s), "y", "z", "a", q(s))
			}
		}
		holdBoth := func(row ...string) {
			t.Helper()
			for _, s := range row {
				holdCut(t, q("a:"+s+";c:d"), "a", q(s), "c", "d")
			}
		}
		// nothing ends these
		holdOne("Q", "Q;c:d", "Qx;c:d", "xQ;c:d", `Q\Q;c:d`, `Q\\\Q;c:d`, "QO;c:d", "QOO;c:d", "QOx;OO;c:d", "QQQ;c:d", `Q;\`, `Q\`, `QQOQ;c:d`, "Q(Q(;c:d", `x\Q;c:d`, "(Q);c:d", "(Q;c:d)", "(Q))Q;c:d", `(Q\Q);c:d`, `Q\;c:d`, `Q;\Q;c:d`, `QxQOyQ;c:d`)
		holdBoth("QQ", "Q;Q", "xQ;yQz", "QOQ", "QOQOQO", "Q;QO;O", "QQQQ", "QxQQ;Q", `Q\QQ`, `Q\\Q`, `Q;\Q;Q`, `Q\\\Q;Q`, `Q\O;Q`, `Q\xQ`, `Q;\;Q`, "Q:Q", "Q(Q", "Q)Q", "Q(;Q", "Q();Q", "(Q)Q)", "(Q;Q;)", "(Q(Q)", "(Q))Q)", "(QO)Q)", `(Q\Q)Q)`, "Q\x00;\xffQ", "Q;\nQ", "QxQO;Q;O", `Q\`+"\xffQ", `Q\`+"\u00e9Q", `Q`+"\xc3"+`\Q;Q`, `Q\(Q`)
		// a name's quotes and brackets hold what is in them likewise, but the first colon is the first one
		holdCut(t, q("Q;a:b;Q:c;d:e"), q("Q;a"), q("b;Q:c"), "d", "e")
		holdCut(t, q("QA:Q:B"), q("Qa"), q("Q:B"))
		holdCut(t, q("aQ:bQ;c:d"), q("aQ"), q("bQ"), "c", "d")
		holdCut(t, q("Q;c:d"), q("Q;c"), "d")
	}
	// outside of quotes, a sign of that kind is a sign like any other
	holdCut(t, `a:\;c:d`, "a", `\`, "c", "d")
	holdCut(t, `a:\\;c:\`, "a", `\\`, "c", `\`)
	holdCut(t, `a:\";c:d`, "a", `\";c:d`)
	holdCut(t, `a:(\);c:d`, "a", `(\)`, "c", "d")
	holdCut(t, `a:\(;c:d`, "a", `\(;c:d`)
	holdCut(t, `a:""\";c:d`, "a", `""\";c:d`)
	for _, s := range []string{"`", "\u2018", "\u201c", "\u00ab", "[", "{", "<", "/*"} {
		holdCut(t, "a:"+s+";c:d", "a", s, "c", "d")
	}
	each(func(c int, b string) {
		if c == '"' || c == '\\' {
			return
		}
		// but for what ends it, nothing counts in a quoted stretch
		holdCut(t, `a:"`+b+`;"`+";c:d", "a", `"`+b+`;"`, "c", "d")
		holdCut(t, `a:"\`+b+`;"`+";c:d", "a", `"\`+b+`;"`, "c", "d")
		holdCut(t, `a:"\\`+b+`";c:d`, "a", `"\\`+b+`"`, "c", "d")
	})
}

func TestCutBrackets(t *testing.T) { // P17.1
	for _, s := range []string{"()", "(;)", "url(x;y)", "(())", "((;);)", "()()", "(;)x(;)", "(\n;)", "(:)", ")", "))", ")x)", "())", "()))", ")()", ")(;)", "(;))", "(())))", "(((;)))", "([;)", "({;)"} {
		holdCut(t, "a:"+s+";c:d", "a", s, "c", "d")
	}
	for _, s := range []string{"(;c:d", "(", "((;c:d", "(();c:d", "()(;c:d", ")(;c:d", "(()(;c:d", "((;);c:d", "(];c:d", "(}>;c:d"} {
		holdCut(t, "a:"+s, "a", s)
	}
	holdCut(t, "(;a:b;):c;d:e", "(;a", "b;):c", "d", "e")
	holdCut(t, "A(B:C)D:E;f:g", "a(b", "C)D:E", "f", "g")
	holdCut(t, "a:);b:(;c:);d:)", "a", ")", "b", "(;c:)", "d", ")")
	holdCut(t, "a:)));(;c:d;e:f", "a", ")))", "(;c", "d;e:f")
	holdCut(t, "a:b(c;d:e;f:g)", "a", "b(c;d:e;f:g)")
	for _, sign := range []string{"(", "()", ")(", "(("} {
		const many = 300
		opens := strings.Repeat(sign, many)
		left := many * len(sign)
		switch sign {
		case "()":
			left = 0
		case ")(":
			left = 1
		}
		holdCut(t, "a:"+opens+strings.Repeat(")", left)+";c:d", "a", opens+strings.Repeat(")", left), "c", "d")
		if left > 0 {
			one := opens + strings.Repeat(")", left-1) + ";c:d"
			holdCut(t, "a:"+one, "a", one)
		}
	}
}

// The chapter's words as patterns: a quoted stretch, a bracket with none in it, and one that is left open.
var (
	quoted   = regexp.MustCompile(`(?s)"(?:\\.|[^"\\])*(?:"|\\?\z)|'(?:\\.|[^'\\])*(?:'|\\?\z)`)
	bracket  = regexp.MustCompile(`(?s)\([^()]*\)`)
	leftOpen = regexp.MustCompile(`(?s)\(.*`)
)

// hidden puts other signs in the place of all that a pattern finds, so many as it was long.
func hidden(s string, found *regexp.Regexp) string {
	return found.ReplaceAllStringFunc(s, func(m string) string { return strings.Repeat("_", len(m)) })
}

// byWords are a style's declarations by the patterns.
func byWords(s string) [][2]string {
	seen := hidden(s, quoted)
	for bracket.MatchString(seen) {
		seen = hidden(seen, bracket)
	}
	seen = hidden(seen, leftOpen)
	var out [][2]string
	first := 0
	for i := range len(s) + 1 {
		if i < len(s) && seen[i] != ';' {
			continue
		}
		piece := s[first:i]
		first = i + 1
		at := strings.Index(piece, ":")
		if at < 0 {
			continue
		}
		name, value := strings.Trim(piece[:at], " \t\n\f\r"), strings.Trim(piece[at+1:], " \t\n\f\r")
		if name != "" && value != "" {
			out = append(out, [2]string{lower(name), value})
		}
	}
	return out
}

// cleanByWords is a style with the last safe one of each name.
func cleanByWords(s string) string {
	l := byWords(s)
	var row []string
	for i, d := range l {
		last := true
		for _, later := range l[i+1:] {
			last = last && !(later[0] == d[0] && css.Safe(later[0], later[1]))
		}
		if css.Safe(d[0], d[1]) && last {
			row = append(row, d[0]+": "+d[1])
		}
	}
	return strings.Join(row, "; ")
}

func holdByWords(t *testing.T, s string) {
	t.Helper()
	if l, want := css.Cut(s), byWords(s); !slices.Equal(l, want) {
		t.Fatalf("P17.1: Cut(%q) is %q, not %q", s, l, want)
	}
	if u, want := css.Clean(s), cleanByWords(s); u != want {
		t.Fatalf("P17.3: Clean(%q) is %q, not %q", s, u, want)
	}
}

// mixed is a style of some pieces.
func mixed(random *rand.Rand) string {
	row := []string{"a", "B", "color", "Width", "margin", "red", "1px", "blue", ":", ":", ":", ";", ";", ";", "\"", "'", "(", ")", "\\", " ", "\t", "\n", "\f", "\r", "\v", "#", "!", "%", "/", "@", "<", "_", "\x00", "\xff", "\u00e9", "\u00a0"}
	s := ""
	for range random.Intn(20) {
		s += row[random.Intn(len(row))]
	}
	return s
}

// many is a style of many declarations, most of which are good.
func many(random *rand.Rand) string {
	all := names()
	values := []string{"red", "1px", " 2em ", "BLUE", "-3%", "1px, 2px", "red!important", "url(x;y)", "'x;y'", "a/b", "\\61", "", " ", "\u00e9"}
	s := ""
	for range random.Intn(12) {
		name := all[random.Intn(len(all))]
		if random.Intn(2) == 0 {
			name = all[random.Intn(3)]
		}
		if random.Intn(6) == 0 {
			name = strings.ToUpper(name)
		}
		if random.Intn(12) == 0 {
			name += "x"
		}
		s += name + " : " + values[random.Intn(len(values))] + ";"
	}
	return s
}

func TestMixed(t *testing.T) { // P17.1, P17.3
	random := rand.New(rand.NewSource(171))
	for range 40000 {
		holdByWords(t, mixed(random))
		holdByWords(t, many(random))
	}
	pieces := []string{"a", ":", ";", "\"", "'", "(", ")", "\\"}
	row := []string{""}
	for range 5 {
		var longer []string
		for _, s := range row {
			for _, piece := range pieces {
				longer = append(longer, s+piece)
				holdByWords(t, s+piece)
				holdByWords(t, "a:"+s+piece+";b:c")
			}
		}
		row = longer
	}
}

func TestSafeNames(t *testing.T) { // P17.2
	all := names()
	if len(all) != 38 {
		t.Fatalf("the document has %d names", len(all))
	}
	for _, name := range all {
		holdSafe(t, name, "red", true)
		holdSafe(t, name, "", false)
		for _, other := range []string{strings.ToUpper(name), strings.ToUpper(name[:1]) + name[1:], name + " ", " " + name, name + "-", "-" + name, name + "s", "x" + name, name[1:], name[:len(name)-1], name + "\x00", name + ":", strings.ReplaceAll(name, "-", "_") + "_", "-moz-" + name, name + "-image", "--" + name, name + "\u200b"} {
			holdSafe(t, other, "red", slices.Contains(all, other))
		}
	}
	for _, name := range []string{"", " ", "-", "a", "background", "background-image", "background-position", "behavior", "-moz-binding", "binding", "bottom", "clear", "clip", "content", "cursor", "display", "filter", "float", "font", "font-family", "font-variant", "left", "list-style", "list-style-image", "max-height", "min-height", "min-width", "opacity", "outline", "overflow", "overflow-x", "position", "right", "src", "text-shadow", "top", "transform", "visibility", "word-spacing", "z-index", "zoom", "border-radius", "border-image", "border-bottom-color", "border-left-width", "mask", "all", "color:", "colo\u0072\u0301", "w\u0131dth"} {
		holdSafe(t, name, "red", false)
	}
}

func TestSafeValues(t *testing.T) { // P17.2
	for _, value := range []string{"a", "Z", "0", " ", "  ", "#", ".", "%", ",", "-", "+", "!", "red", "RED", "#00fF7a", "1.5em", "-2px +3%", "12px, 4px", "red !important", " red ", "expression", "javascript", "1e3", "--x", "inherit", strings.Repeat("a", 99), strings.Repeat("a", 100), strings.Repeat(" ", 100)} {
		holdSafe(t, "color", value, true)
	}
	for _, value := range []string{"", "url(x)", "(", ")", "rgb(1,2,3)", "a;b", "a:b", ":", "a\"b", "'a'", "\\72 ed", "a/b", "/**/", "a\tb", "a\nb", "\r", "\f", "@import", "<", ">", "&", "a_b", "a=b", "a?b", "a*b", "{}", "[x]", "~", "^", "`", "|", "$", "a\x00", "a\x7f", "\u00e9", "\u212a", "\uff41", "\u0661", "\u00a0", "\xff", "a\xc3", strings.Repeat("a", 101), strings.Repeat(" ", 101), strings.Repeat("a", 1000), strings.Repeat("a", 99) + "(", strings.Repeat("a", 99) + "\u00e9"} {
		holdSafe(t, "color", value, false)
	}
	each(func(c int, b string) {
		for _, value := range []string{b, "a" + b, b + "a", "a" + b + "a", strings.Repeat("a", 99) + b, strings.Repeat(b, 100)} {
			holdSafe(t, "width", value, isPlain(c))
		}
		holdSafe(t, "width", strings.Repeat(b, 101), false)
		holdSafe(t, "position", b, false)
	})
}

func TestClean(t *testing.T) { // P17.3
	long := strings.Repeat("a", 100)
	for s, want := range map[string]string{
		"": "", ";": "", "color": "", "color:": "", ":red": "", "color:red": "color: red", "color:red;": "color: red", " color : red ; ": "color: red", "COLOR:RED": "color: RED",
		"COLOR: red; background: url(x); color:blue": "color: blue",
		// the place is that of the last one that is safe
		"color:red;width:1px;color:blue":                                      "width: 1px; color: blue",
		"color:red;width:1px;color:url(x)":                                    "color: red; width: 1px",
		"color:a;color:b;width:c;color:d;color:(e);width:\"f\"":               "width: c; color: d",
		"color:a;margin:b;width:c;margin:d":                                   "color: a; width: c; margin: d",
		"color:a;Color:b;cOLOR:c":                                             "color: c",
		"color:a;color:a":                                                     "color: a",
		"width:a;max-width:b;width:c;height:d":                                "max-width: b; width: c; height: d",
		"border:a;border-top:b;border:c":                                      "border-top: b; border: c",
		"position:fixed;color:red;top:0;left:0":                               "color: red",
		"x:y;color:\\72 ed":                                                   "",
		"color:red!important;width: 1px , 2px":                                "color: red!important; width: 1px , 2px",
		"background:url(a;color:red;width:1px);color:blue":                    "color: blue",
		"content:\";color:red;\";color:blue":                                  "color: blue",
		"color:red;content:\";width:1px":                                      "color: red",
		"color:red;x:(;width:1px":                                             "color: red",
		"color:red:blue":                                                      "",
		"color:\tred\n;width:\f1px\r":                                         "color: red; width: 1px",
		"color:a\tb;width:a  b":                                               "width: a  b",
		"color:\vred;width:\u00a01px":                                         "",
		"color:" + long:                                                       "color: " + long,
		"color:  " + long + "\n":                                              "color: " + long,
		"color:" + long + "a":                                                 "",
		"color:red;color:" + long + "a":                                       "color: red",
		"co\tlor:red;color :blue":                                             "color: blue",
		"/*x*/color:red":                                                      "",
		"color:red/*x*/;width:1px":                                            "width: 1px",
		"color:red}p{width:1px":                                               "",
		"@import 'x';color:red":                                               "color: red",
		"<style>color:red;width:1px":                                          "width: 1px",
		"color:red;;;;width:1px;;":                                            "color: red; width: 1px",
		"width:expression(alert(1));height:1px":                               "height: 1px",
		"\u017ftyle:x;list-\u017ftyle-type:x;wh\u0130te-space:x;col\u00d6r:x": "",
	} {
		holdClean(t, s, want)
	}
	var row []string
	for _, name := range names() {
		holdClean(t, name+":x", name+": x")
		row = append(row, name+": x")
	}
	all := strings.Join(row, "; ")
	holdClean(t, all, all)
	holdClean(t, strings.ToUpper(strings.ReplaceAll(all, ": ", ":"))+";"+all, all)
	slices.Reverse(row)
	back := strings.Join(row, "; ")
	holdClean(t, all+";"+back, back)
}

func TestWhatIsCleanStays(t *testing.T) { // P17.4
	loads := regexp.MustCompile(`[()"'\\@</]`)
	shape := regexp.MustCompile(`^(?:[a-z-]+: [^;:]{1,100}(?:; [a-z-]+: [^;:]{1,100})*)?$`)
	random := rand.New(rand.NewSource(174))
	full := 0
	for i := range 60000 {
		s := many(random)
		if i%3 == 0 {
			s = mixed(random) + s + mixed(random)
		}
		u := css.Clean(s)
		if again := css.Clean(u); again != u {
			t.Fatalf("P17.4: %q is clean as %q, and that as %q", s, u, again)
		}
		if loads.MatchString(u) || !shape.MatchString(u) {
			t.Fatalf("P17.4: %q is clean as %q", s, u)
		}
		if u != "" {
			full++
		}
	}
	if full < 20000 {
		t.Errorf("only %d were not empty", full)
	}
}

func TestAnswersAreOnesOwn(t *testing.T) { // R5, R6
	const s = "a:b;c:d;e:f"
	first, second := css.Cut(s), css.Cut(s)
	_ = append(first, [2]string{"x", "y"}, [2]string{"x", "y"})
	clear(first)
	holdCut(t, s, "a", "b", "c", "d", "e", "f")
	if !slices.Equal(second, css.Cut(s)) {
		t.Errorf("R5: %q", second)
	}
}

func TestLongTextsEnd(t *testing.T) { // R1
	const size = 1 << 18
	for _, one := range []string{"(", ")", "()", "\"", "'", "\\", "\"\\", "'\\'", ";", ":", "a", " ", "a:", ":a", "a:b;", "color:red;", "color:red;width:1px;", "(;", "\"(", "(\")", "\xff", "\u00e9:"} {
		s := strings.Repeat(one, size)
		l := css.Cut(s)
		if u := css.Clean(s); len(u) > len(s)+3*len(names()) || css.Clean(u) != u {
			t.Errorf("R1: many of %q are %d bytes", one, len(u))
		}
		if one == "a:b;" && len(l) != size {
			t.Errorf("P17.1: %d of %d", len(l), size)
		}
		css.Safe(s, "red")
		holdSafe(t, "color", s, false)
	}
	holdClean(t, strings.Repeat("color:red;width:1px;", size), "color: red; width: 1px")
	holdCut(t, "a:"+strings.Repeat("(", size)+strings.Repeat(")", size)+";b:c", "a", strings.Repeat("(", size)+strings.Repeat(")", size), "b", "c")
}

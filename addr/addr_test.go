package addr_test

import (
	"math/rand"
	"regexp"
	"slices"
	"strings"
	"testing"

	"muslin/addr"
	"muslin/api"
	"muslin/chars"
	"muslin/word"
)

const bad = "\xef\xbf\xbd"

// boxes makes boxes of names and mail addresses by turns.
func boxes(row ...string) []api.Box {
	var out []api.Box
	for i := 0; i < len(row); i += 2 {
		out = append(out, api.Box{Name: row[i], Mail: row[i+1]})
	}
	return out
}

func TestGood(t *testing.T) { // P8.1
	for s, want := range map[string]bool{
		"a@b": true, "a.b+c@d-e": true, "!#$%&'*+-/=?^_`{|}~.[]@[]": true, "A@0": true, ".@.": true, "=?@?=": true,
		"": false, "@": false, "@@": false, "@@@": false, "a": false, "@b": false, "a@": false, "a@@": false, "@@b": false, "a@@b": false, "a@b@c": false, "@a@b": false, "a@b@": false,
		" a@b": false, "a@b ": false, "a @b": false, "a@ b": false, "a@b\n": false, "\"a\"@b": false, "<a@b>": false, "a@b(c)": false, "a,b@c": false, "a@b;": false, "a:b@c": false, "a\\@b": false,
		"\u00e9@b": false, "a@\u00e9": false, "\xff@b": false, "a@b\x00": false, "a@b\x7f": false, "a\uff20b": false,
	} {
		if addr.Good(s) != want {
			t.Errorf("P8.1: Good(%q) is not %v", s, want)
		}
	}
	for c := range 256 {
		b := string([]byte{byte(c)})
		want := 33 <= c && c <= 126 && !strings.Contains("<>(),;:\\\"@", b)
		for _, s := range []string{b + "@y", "x@" + b, "x" + b + "y@z", "x@y" + b + "z"} {
			if addr.Good(s) != want {
				t.Errorf("P8.1: Good(%q) is not %v", s, want)
			}
		}
	}
}

func holdParse(t *testing.T, s string, row ...string) {
	t.Helper()
	if l := addr.Parse(s); !slices.Equal(l, boxes(row...)) {
		t.Errorf("P8.2: Parse(%q) is %q, not %q", s, l, boxes(row...))
	}
}

func TestParse(t *testing.T) { // P8.2
	holdParse(t, "")
	holdParse(t, " \t\r\n")
	holdParse(t, ",;, ;")
	holdParse(t, "a@b", "", "a@b")
	holdParse(t, "\"A, B\" <a@b>, c@d (C)", "A, B", "a@b", "C", "c@d")
	holdParse(t, " a@b , ,c@d;", "", "a@b", "", "c@d")
	holdParse(t, "a@b;c@d,e@f\r\n\t,g@h", "", "a@b", "", "c@d", "", "e@f", "", "g@h")
	holdParse(t, "a@b,a@b", "", "a@b", "", "a@b")
	holdParse(t, "bad")
	holdParse(t, "bad, a b@c, a@b@c, \va@b, \u00a0a@b, d@e", "", "d@e")
	holdParse(t, "friends: a@b, c@d;", "", "c@d")
	holdParse(t, "a@b>", []string{}...)
	holdParse(t, "a@b>,c@d", "", "c@d")
	holdParse(t, "a\\,@b", []string{}...)
}

func TestParseAngled(t *testing.T) { // P8.2
	holdParse(t, "<a@b>", "", "a@b")
	holdParse(t, "A B <a@b> x", "A B", "a@b")
	holdParse(t, "A<a@b>B<c@d>", "A", "a@b")
	holdParse(t, " \t\r\nA \n< \ta@b\r\n >", "A", "a@b")
	holdParse(t, "A\r\n\tB <a@b>", "A\r\n\tB", "a@b")
	holdParse(t, "A <a@b", "A", "a@b")
	holdParse(t, "A <a@b, c@d", "A", "")
	holdParse(t, "A <a@b; C <c@d>, e@f", "A", "", "", "e@f")
	holdParse(t, "A <a,b@c>, d@e", "A", "", "", "d@e")
	holdParse(t, "<a;b@c>, d@e", "", "d@e")
	holdParse(t, "A <>, <>, B < >, <", "A", "", "B", "")
	holdParse(t, "A <bad>, <bad>", "A", "")
	holdParse(t, "A <<a@b>>", "A", "")
	holdParse(t, "> A > <a@b>", "> A >", "a@b")
	holdParse(t, "><a@b>,c@d", ">", "a@b", "", "c@d")
	// a stretch in it, or ahead of it, is one, too
	holdParse(t, "A <a@b\">\">, c@d", "A", "", "", "c@d")
	holdParse(t, "A <a@b(>,)>, c@d", "A", "", "", "c@d")
	holdParse(t, "A <\"a@b>, c@d", "A", "")
	holdParse(t, "\"<\" A <a@b>", "<", "a@b")
	holdParse(t, "(<) A <a@b>", "(<) A", "a@b")
	holdParse(t, "A (B <c@d>) <a@b>", "A (B <c@d>)", "a@b")
	holdParse(t, "A (B <c@d>)", "B <c@d>", "")
	holdParse(t, "(A) a@b (<c@d>)", "A", "a@b")
	holdParse(t, "\"A <c@d>\" <a@b>", "A <c@d>", "a@b")
	holdParse(t, "\"A <c@d>\"")
	holdParse(t, "A \\\"<, B\" <a@b>", "A \\\"<, B\"", "a@b")
	holdParse(t, "A \\\"<\", B\" <a@b>")
}

func TestParseNames(t *testing.T) { // P8.2
	holdParse(t, "\"A, \\\"B\" <a@b>", "A, \"B", "a@b")
	holdParse(t, "\"x\" (y) <a@b>", "x", "a@b")
	holdParse(t, "\"x\"y\"z\" <a@b>", "x", "a@b")
	holdParse(t, "x \"y\" <a@b>", "x \"y\"", "a@b")
	holdParse(t, "x \"y\\\"<\\\\\" <a@b>", "x \"y\\\"<\\\\\"", "a@b")
	holdParse(t, "\"\" <a@b>", "", "a@b")
	holdParse(t, "\"\" <a>")
	holdParse(t, " \" A \" <a@b>", " A ", "a@b")
	holdParse(t, "\"\\A\\\\\\;\\\u00e9\\\n\" <a@b>", "A\\;\u00e9\n", "a@b")
	holdParse(t, "(y) <a@b>", "(y)", "a@b")
	holdParse(t, "(y\\)) <a@b>", "(y\\))", "a@b")
	holdParse(t, "\\\\A <a@b>", "\\\\A", "a@b")
	holdParse(t, "'A, B' <a@b>", "B'", "a@b")
	holdParse(t, "\"open <a@b>")
	holdParse(t, "\"open\\\" <a@b>, c@d")
	holdParse(t, "x \"open <a@b>, c@d")
	// encoded words
	holdParse(t, "=?ascii?Q?D?= <d@e>", "D", "d@e")
	holdParse(t, "=?l1?Q?caf=E9?=\r\n =?l1?Q?_x?= y <d@e>", "caf\u00e9 x y", "d@e")
	holdParse(t, "\"=?ascii?Q?\\D?=\" <d@e>, d@e (=?ascii?Q?\\D?=)", "D", "d@e", "D", "d@e")
	holdParse(t, "=?ascii?Q?=22D=22_?= <d@e>", "\"D\" ", "d@e")
	holdParse(t, "=?ascii?Q??= <d@e>, =?ascii?Q??= <>, (=?ascii?Q??=)", "", "d@e")
	holdParse(t, "=?ascii?Q?d@e?=, =?ascii?Q?d=40e?=", "", "=?ascii?Q?d@e?=")
	holdParse(t, "\xe9 <a@b>, c@d (\xff\u00e9), (\xff)", bad, "a@b", bad+"\u00e9", "c@d", bad, "")
	holdParse(t, "=?ascii?Q?A,B?= <a@b>", "B?=", "a@b")
}

func TestParseRemarks(t *testing.T) { // P8.2
	holdParse(t, "c@d (C (x\\)) y)", "C (x)) y", "c@d")
	holdParse(t, "(only)", "only", "")
	holdParse(t, "()", []string{}...)
	holdParse(t, "() a@b ()", "", "a@b")
	holdParse(t, "()(x) a@b", "", "a@b")
	holdParse(t, "(x)(y) a@b (z)", "x", "a@b")
	holdParse(t, "a(x)@(y)b", "x", "a@b")
	holdParse(t, "a (x) @b", "x", "")
	holdParse(t, "( x )\ta@b\r\n", "x", "a@b")
	holdParse(t, "a@b (\\ x\\ ), (\\\t)", "x", "a@b")
	holdParse(t, "a@b (x, y; <z>), c@d", "x, y; <z>", "a@b", "", "c@d")
	holdParse(t, "a@b (((x)y)z) (w)", "((x)y)z", "a@b")
	holdParse(t, "a@b (x))", "x", "")
	holdParse(t, ") a@b")
	holdParse(t, "a@b (x \"y) c@d\"z), e@f", "x \"y", "")
	holdParse(t, "a@b (x \"y) \"z), c@d\", e@f", "x \"y", "", "", "e@f")
	holdParse(t, "a@b (x \"y), c@d", "x \"y", "a@b", "", "c@d")
	holdParse(t, "a@b (\"x\")", "\"x\"", "a@b")
	holdParse(t, "a@b (x\\", "x\\", "a@b")
	holdParse(t, "a@b (x\\\\", "x\\", "a@b")
	holdParse(t, "a@b (x\\ ", "x", "a@b")
	holdParse(t, "a@b (\\", "\\", "a@b")
	holdParse(t, "a@b (", "", "a@b")
	holdParse(t, "a@b (x, c@d", "x, c@d", "a@b")
	holdParse(t, "a@b (x (y), c@d", "x (y), c@d", "a@b")
	holdParse(t, "a@b (\\(x\\\\), c@d", "(x\\", "a@b", "", "c@d")
	holdParse(t, "a@b (x\\), c@d", "x), c@d", "a@b")
	holdParse(t, "a@b\\(x)", "x", "")
	holdParse(t, "\"(\"a@b (x)", "x", "")
}

// stretchSize is how many bytes the stretch has that s begins with; 0: it begins with none.
func stretchSize(s string) int {
	if s == "" || s[0] != '"' && s[0] != '(' {
		return 0
	}
	for i := 1; i < len(s); i++ {
		switch {
		case s[i] == '\\':
			i++
		case s[0] == '"' && s[i] == '"', s[0] == '(' && s[i] == ')':
			return i + 1
		case s[0] == '(' && s[i] == '(':
			i += stretchSize(s[i:]) - 1
		}
	}
	return len(s)
}

// masked is s with an `x` in the place of all in quoted stretches, and an `o` in that of all in remarks.
func masked(s string) string {
	out := ""
	for len(out) < len(s) {
		rest := s[len(out):]
		size := stretchSize(rest)
		switch {
		case size == 0:
			out += rest[:1]
		case rest[0] == '"':
			out += strings.Repeat("x", size)
		default:
			out += strings.Repeat("o", size)
		}
	}
	return out
}

var (
	inAngles = regexp.MustCompile(`(?s)<[^>]*`)
	onePair  = regexp.MustCompile(`(?s)\\(.)`)
)

// parseByMasks reads as P8.2 says it: first the stretches of all are found, then boxes are cut, then read.
func parseByMasks(s string) []api.Box {
	signs := []byte(masked(s))
	for i, c := range signs {
		signs[i] = min(c, 127) // a pattern looks at signs, not at bytes
	}
	mask := inAngles.ReplaceAllStringFunc(string(signs), func(in string) string { return "<" + strings.Repeat("i", len(in)-1) })
	var out []api.Box
	begin := 0
	for i := 0; i <= len(mask); i++ {
		if i == len(mask) || mask[i] == ',' || mask[i] == ';' {
			if box := boxByMask(s[begin:i], mask[begin:i]); box.Name != "" || box.Mail != "" {
				out = append(out, box)
			}
			begin = i + 1
		}
	}
	return out
}

func boxByMask(s, mask string) api.Box {
	name, mail := "", ""
	if at := strings.Index(mask, "<"); at >= 0 {
		name, mail = strings.Trim(s[:at], " \t\r\n"), s[at+1:]
		if end := strings.Index(mask[at:], ">"); end >= 0 {
			mail = s[at+1 : at+end]
		}
		if strings.HasPrefix(name, "\"") {
			name = onePair.ReplaceAllString(name[1:stretchSize(name)-1], "$1")
		}
	} else {
		first := true
		for i := 0; i < len(s); {
			size := stretchSize(s[i:])
			switch {
			case size == 0:
				size = 1
				mail += s[i : i+1]
			case s[i] == '"':
				mail += s[i : i+size]
			case first:
				name, first = remarkByPattern(s[i:i+size]), false
			}
			i += size
		}
	}
	mail = strings.Trim(mail, " \t\r\n")
	if !addr.Good(mail) {
		mail = ""
	}
	return api.Box{Name: word.Decode(name), Mail: mail}
}

var endedRemark = regexp.MustCompile(`(?s)\A\(((?:[^\\]|\\.)*)\)\z`)

func remarkByPattern(s string) string {
	inner := s[1:]
	if found := endedRemark.FindStringSubmatch(s); found != nil && stretchSize(s+" ") == len(s) {
		inner = found[1]
	}
	return strings.Trim(onePair.ReplaceAllString(inner, "$1"), " \t\r\n")
}

func TestParseMixed(t *testing.T) { // P8.2
	for _, tokens := range [][]string{
		{"\"", "\\", "(", ")", "<", ">", ",", "a@b"},
		{"\"", "A", "\\", "<", ">", " ", ",", "a@b"},
		{"(", ")", "\\", "A", " ", ";", "a", "@b"},
		{"\"", "\\", "(", ")", "<", ">", "<a@b>", ",", ";", "a@b", " ", "\r\n\t", "A", "B C", "=?l1?Q?=E9?=", "\xff", "\u00e9", "@"},
	} {
		row := []string{""}
		for range 5 {
			var longer []string
			for _, s := range row {
				for _, token := range tokens {
					longer = append(longer, s+token)
				}
			}
			row = longer
			if len(row) > 1<<16 {
				break
			}
			for _, s := range row {
				holdByMasks(t, s)
			}
		}
		random := rand.New(rand.NewSource(82))
		for range 30000 {
			s := ""
			for range random.Intn(24) {
				s += tokens[random.Intn(len(tokens))]
			}
			holdByMasks(t, s)
		}
	}
}

func holdByMasks(t *testing.T, s string) {
	t.Helper()
	if l, want := addr.Parse(s), parseByMasks(s); !slices.Equal(l, want) {
		t.Fatalf("P8.2: Parse(%q) is %q, not %q", s, l, want)
	}
}

func holdWrite(t *testing.T, l []api.Box, want string, errno api.Errno) {
	t.Helper()
	if s, e := addr.Write(l); s != want || e != errno {
		t.Errorf("P8.3: Write(%q) is %q, %d, not %q, %d", l, s, e, want, errno)
	}
}

func TestWrite(t *testing.T) { // P8.3
	holdWrite(t, nil, "", api.OK)
	holdWrite(t, boxes("", "a@b"), "a@b", api.OK)
	holdWrite(t, boxes("", "a@b", "A \"\\", "c@d", "", "e@f"), "a@b, \"A \\\"\\\\\" <c@d>, e@f", api.OK)
	holdWrite(t, boxes("\u00e9", "a@b"), "=?utf-8?B?w6k=?= <a@b>", api.OK)
	holdWrite(t, boxes("=?", "a@b", "?=", "a@b"), "=?utf-8?B?PT8=?= <a@b>, \"?=\" <a@b>", api.OK)
	holdWrite(t, boxes("\xff", "a@b"), "=?utf-8?B?77+9?= <a@b>", api.OK)
	holdWrite(t, boxes(" ", "a@b", "A, <c@d>; (x)", "a@b"), "\" \" <a@b>, \"A, <c@d>; (x)\" <a@b>", api.OK)
	holdWrite(t, boxes(strings.Repeat("\u00e9", 16), "a@b"), "=?utf-8?B?"+strings.Repeat("w6nDqcOp", 5)+"?= =?utf-8?B?w6k=?= <a@b>", api.OK)
	for _, l := range [][]api.Box{
		{{}}, boxes("A", ""), boxes("A", "a"), boxes("", "@b"), boxes("", "<a@b>"), boxes("", " a@b"), boxes("A", "\u00e9@b"), boxes("a\n", "a@b"), boxes("\u00e9\x7f", "a@b"),
		boxes("", "a@b", "", ""), boxes("", "a@b", "", "c"), boxes("\t", "a@b", "", "c@d"),
	} {
		holdWrite(t, l, "", api.ErrArg)
	}
	for c := range 256 {
		b := string([]byte{byte(c)})
		for _, around := range [][2]string{{"", ""}, {"x", ""}, {"", "y"}, {"x", "y"}} {
			name := around[0] + b + around[1]
			want, errno := "\""+name+"\" <a@b>", api.OK
			switch {
			case c < 32 || c == 127:
				want, errno = "", api.ErrArg
			case c > 127:
				want = word.Encode(name) + " <a@b>"
			case c == '"' || c == '\\':
				want = "\"" + around[0] + "\\" + b + around[1] + "\" <a@b>"
			}
			holdWrite(t, boxes(name, "a@b"), want, errno)
		}
		if mail := "x" + b + "y@z"; addr.Good(mail) {
			holdWrite(t, boxes("", mail, "A", mail), mail+", \"A\" <"+mail+">", api.OK)
		} else {
			holdWrite(t, boxes("", "a@b", "A", mail), "", api.ErrArg)
		}
	}
}

func TestWhatIsWrittenIsRead(t *testing.T) { // P8.4
	random := rand.New(rand.NewSource(8))
	signs := []string{"a", "B", "\"", "\\", "(", ")", "<", ">", ",", ";", ":", "@", " ", "=", "?", "=?", "=?l1?Q?x?=", "\u00e9", "\xff", "\xe2\x82", "\u20ac", "\u00a0"}
	mails := []string{"a@b", "a.b+c@d-e", "!#$%&'*@[x]", "=?utf-8?Q?x?=@y", "z@z"}
	for range 6000 {
		var l, want []api.Box
		for range random.Intn(6) {
			name := ""
			for range random.Intn(9) {
				name += signs[random.Intn(len(signs))]
			}
			mail := mails[random.Intn(len(mails))]
			l = append(l, boxes(name, mail)...)
			want = append(want, boxes(chars.Valid(name), mail)...)
		}
		s, e := addr.Write(l)
		if back := addr.Parse(s); e != api.OK || !slices.Equal(back, want) {
			t.Fatalf("P8.4: %q is written %q, %d, and comes back as %q", l, s, e, back)
		}
	}
}

func TestAnswersAreOnesOwn(t *testing.T) { // R5, R6
	const s = "A <a@b>, c@d (C)"
	clear(addr.Parse(s))
	holdParse(t, s, "A", "a@b", "C", "c@d")
	given := boxes("A", "a@b", "\xff", "c@d", "", "e@f")[:2]
	kept := slices.Clone(given[:3])
	addr.Write(given)
	if !slices.Equal(given[:3], kept) {
		t.Errorf("R5: what was handed in is %q now", given[:3])
	}
}

func TestLongTextsEnd(t *testing.T) { // R1
	const size = 1 << 18
	for _, one := range []string{",", "\"", "\\", "(", ")", "()", "<", ">", "<>", "\"\\", "(\\", " ", "@", "a@b,", "<,", "(<", "A <a@b>", "=?", "=?l1?Q?"} {
		s := strings.Repeat(one, size)
		addr.Parse(s)
		addr.Parse("a@b (" + s)
		addr.Parse("A <" + s)
		addr.Parse("\"" + s + "\" <a@b>")
		addr.Good(s)
	}
	deep := strings.Repeat("(", size) + "x" + strings.Repeat(")", size)
	holdParse(t, "a@b "+deep+", c@d", deep[1:len(deep)-1], "a@b", "", "c@d")
	l := slices.Repeat(boxes("A", "a@b", "\u00e9", "c@d"), size/8)
	s, e := addr.Write(l)
	if back := addr.Parse(s); e != api.OK || !slices.Equal(back, l) {
		t.Errorf("P8.4: many boxes: %d bytes, %d", len(s), e)
	}
}

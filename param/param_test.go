package param_test

import (
	"math/rand"
	"regexp"
	"slices"
	"strconv"
	"strings"
	"testing"

	"muslin/api"
	"muslin/chars"
	"muslin/param"
	"muslin/pct"
	"muslin/word"
)

const bad = "\xef\xbf\xbd"

// params makes parameters of names and values by turns.
func params(row ...string) []api.Param {
	var out []api.Param
	for i := 0; i < len(row); i += 2 {
		out = append(out, api.Param{Name: row[i], Value: row[i+1]})
	}
	return out
}

func holdParse(t *testing.T, s, main string, row ...string) {
	t.Helper()
	if m, l := param.Parse(s); m != main || !slices.Equal(l, params(row...)) {
		t.Errorf("P7.1: Parse(%q) is %q, %q, not %q, %q", s, m, l, main, params(row...))
	}
}

func TestParseMain(t *testing.T) { // P7.1
	for s, main := range map[string]string{
		"":                         "",
		" \t\r\n":                  "",
		";":                        "",
		";;":                       "",
		"text/plain":               "text/plain",
		" \t\r\nText/PLAIN\n\r\t ": "text/plain",
		"a b":                      "a b",
		"A=B":                      "a=b",
		"\v\fA\u00a0":              "\v\fa\u00a0",
		"\u00c9\u212a\xff[@":       "\u00c9\u212a\xff[@",
		"A;":                       "a",
		"A;b":                      "a",
		"\"A;\\\"B\" ;":            "\"a;\\\"b\"",
		"\"A;b=c":                  "\"a;b=c",
		"a\\;b":                    "a\\",
		"=?ascii?Q?x?=":            "=?ascii?q?x?=",
		"%41(;)":                   "%41(",
	} {
		holdParse(t, s, main)
	}
	for c := range 256 {
		b := string([]byte{byte(c)})
		want := "x" + b + "y"
		switch {
		case 'A' <= c && c <= 'Z':
			want = "x" + string([]byte{byte(c + 32)}) + "y"
		case c == ';':
			want = "x"
		}
		holdParse(t, "x"+b+"y", want)
	}
}

func TestParsePieces(t *testing.T) { // P7.1
	holdParse(t, "text/plain; charset=utf-8", "text/plain", "charset", "utf-8")
	holdParse(t, "a; B = c ;d", "a", "b", "c")
	holdParse(t, "a;b=c;;d=e;", "a", "b", "c", "d", "e")
	holdParse(t, ";b=c", "", "b", "c")
	holdParse(t, "a;\r\n\tb=c\r\n ;\td\n=\re ", "a", "b", "c", "d", "e")
	holdParse(t, "a; b=c d ; e f=g", "a", "b", "c d", "e f", "g")
	holdParse(t, "a;\vb\f=\u00a0c", "a", "\vb\f", "\u00a0c")
	holdParse(t, "a;b=c=d;e==f;g=", "a", "b", "c=d", "e", "=f", "g", "")
	holdParse(t, "a;b;c d;=e; =f;\t=\t;g=h", "a", "g", "h")
	holdParse(t, "a;\xc3\xff=\u0130", "a", "\xc3\xff", "\u0130")
	holdParse(t, "a;\u00c9K\u212a=1", "a", "\u00c9k\u212a", "1")
	holdParse(t, "a;b=(c;d)", "a", "b", "(c")
	holdParse(t, "a;b=c,d=e", "a", "b", "c,d=e")
}

func TestParseQuoted(t *testing.T) { // P7.1
	holdParse(t, `a;b="c;d\"e" x;f=g`, "a", "b", `c;d"e`, "f", "g")
	holdParse(t, `a;b="";c=" d "`, "a", "b", "", "c", " d ")
	holdParse(t, `a;b= "c" ;d`, "a", "b", "c")
	holdParse(t, `a;b="c"d";e=f`, "a", "b", "c")
	holdParse(t, `a;b="\c\\\;";d="\\"`, "a", "b", `c\;`, "d", `\`)
	holdParse(t, `a;b="c\\";d=e`, "a", "b", `c\`, "d", "e")
	holdParse(t, `a;b="c\";d=e`, "a", "b", `c";d=e`)
	holdParse(t, `a;b="c`, "a", "b", "c")
	holdParse(t, `a;b="c\`, "a", "b", "c")
	holdParse(t, `a;b="c\\`, "a", "b", `c\`)
	holdParse(t, `a;b="c\ `, "a", "b", "c")
	holdParse(t, `a;b="c `, "a", "b", "c")
	holdParse(t, `a;b="`, "a", "b", "")
	holdParse(t, `a;b="\`, "a", "b", "")
	holdParse(t, `a;b="c;d=e ; f`, "a", "b", "c;d=e ; f")
	// quotes that are not at a value's begin are part of it, and quote what is between them
	holdParse(t, `a;b=c"d;e\"f"g;h=i`, "a", "b", `c"d;e\"f"g`, "h", "i")
	holdParse(t, `a;b=\"c;d"=e`, "a", "b", `\"c;d"=e`)
	holdParse(t, `a;b=c\;d=e`, "a", "b", `c\`, "d", "e")
	holdParse(t, `a;"b;c"=d;e=f`, "a", `"b;c"`, "d", "e", "f")
	holdParse(t, `a;"b=c"=d`, "a", `"b`, `c"=d`)
	holdParse(t, `a;b"="c;d`, "a", `b"`, "c")
	holdParse(t, `a";b=c";d=e`, `a";b=c"`, "d", "e")
	holdParse(t, "a;b='c;d'", "a", "b", "'c")
	holdParse(t, "a;b=\"c\r\n d\xff\"", "a", "b", "c\r\n d"+bad)
}

func TestParseNames(t *testing.T) { // P7.1
	// the first one of a raw name counts
	holdParse(t, "a;b=1;B=2;b =3;=3", "a", "b", "1")
	holdParse(t, "a;b=;b=2", "a", "b", "")
	holdParse(t, "a;b;b=2", "a", "b", "2")
	holdParse(t, "a;b*=x;b*=utf-8''y;b=z", "a", "b", "z")
	holdParse(t, "a;b*0=1;b*0=2;b*1*=3;B*1*=4", "a", "b", "13")
	// the order is that of the names, whatever tells their values
	holdParse(t, "a;b*9=x;c=1;b=2", "a", "b", "2", "c", "1")
	holdParse(t, "a;c=1;b*1=y;d=2;b*0=x", "a", "c", "1", "b", "xy", "d", "2")
	holdParse(t, "a;b**=x;c=1;b*=''2", "a", "b", "2", "c", "1")
	// names up to the first `*`; empty ones
	holdParse(t, "a;*=utf-8''x;*0=y;**=z;b=1", "a", "b", "1")
	holdParse(t, "a;b*x=1;b**=utf-8''2;b*0**=3;b*00=4;b*+0=5;b* 0=6;b*-1=7;b*1=8", "a")
	holdParse(t, "a;b *=utf-8''x;b=y", "a", "b ", "x", "b", "y")
	holdParse(t, "a; B*=utf-8''x ;c*0*=y", "a", "b", "x", "c", "y")
}

func TestParseExtended(t *testing.T) { // P7.1, first way
	holdParse(t, "a;b=x;b*0=y;b*=utf-8''%C3%A9", "a", "b", "\u00e9")
	holdParse(t, "a;b*=UTF-8'en'%41%zz+;c*=latin1''%e9;d*=us-ascii''%80;e*=utf-16be''%20%AC", "a", "b", "A%zz+", "c", "\u00e9", "d", "\u20ac", "e", "\u20ac")
	holdParse(t, "a;b*=\"latin1''%e9;\\x\" y", "a", "b", "\u00e9;x")
	holdParse(t, "a;b*=koi8-r''%C3%A9%ff", "a", "b", "\u00e9"+bad)
	holdParse(t, "a;b*=''%C3%A9'%27;c*='''", "a", "b", "\u00e9''", "c", "'")
	holdParse(t, "a;b*=utf-8''", "a", "b", "")
	holdParse(t, "a;b*=utf-8''=?ascii?Q?x?=", "a", "b", "=?ascii?Q?x?=")
	// without an alphabet it is none
	holdParse(t, "a;b*=x", "a")
	holdParse(t, "a;b*=;c*=x'y;d*=%27%27x", "a")
	holdParse(t, "a;b*=x;b=y", "a", "b", "y")
	holdParse(t, "a;b*=x;b*0=z;b=y", "a", "b", "z")
	holdParse(t, "a;b=utf-8''x", "a", "b", "utf-8''x")
}

func TestParseContinued(t *testing.T) { // P7.1, second way
	holdParse(t, "a;b*1=y;b*0=x;b*3=z;b=q", "a", "b", "xy")
	holdParse(t, "a;b*0*=latin1''%e9;b*1=%41;b*2*=%42", "a", "b", "\u00e9%41B")
	holdParse(t, "a;b*0*=%41;b*0=z", "a", "b", "A")
	holdParse(t, "a;b*0=z;b*0*=%41;b*1=c;b*1*=%42", "a", "b", "AB")
	holdParse(t, "a;b*0=x'y'%41;b*1*=latin1''%e9", "a", "b", "x'y'%41latin1''"+bad)
	holdParse(t, "a;b*0*=latin1'%e9", "a", "b", "latin1'"+bad)
	holdParse(t, "a;b*0*=''%C3%A9;b*1*=%ff", "a", "b", "\u00e9"+bad)
	holdParse(t, "a;b*0*=koi8-r'ru'%C3%A9", "a", "b", "\u00e9")
	holdParse(t, "a;b*0=\"x;\\y\" z;b*1=\" w \"", "a", "b", "x;y w ")
	holdParse(t, "a;b*0=\"=?ascii?Q?x?=\"", "a", "b", "=?ascii?Q?x?=")
	holdParse(t, "a;b*0=;b*1=;b=c", "a", "b", "")
	holdParse(t, "a;b*1=x;b*2=y", "a")
	holdParse(t, "a;b*1=x;b*2=y;b=z", "a", "b", "z")
	// signs and codes over two sections
	holdParse(t, "a;b*0*=utf-8''%C3;b*1*=%A9", "a", "b", "\u00e9")
	holdParse(t, "a;b*0*=%C3;b*1=\xa9", "a", "b", "\u00e9")
	holdParse(t, "a;b*0*=utf-16be''%20;b*1*=%AC%00;b*2=A", "a", "b", "\u20acA")
	holdParse(t, "a;b*0*=utf-8''%C;b*1*=3", "a", "b", "%C3")
	for _, n := range []int{9, 10, 11, 12, 100, 101, 1000} {
		s, want := "a", ""
		for i := n - 1; i >= 0; i-- {
			s += ";b*" + strconv.Itoa(i) + "=" + strconv.Itoa(i) + "."
			want = strconv.Itoa(i) + "." + want
		}
		holdParse(t, s, "a", "b", want)
		holdParse(t, s+";b*"+strconv.Itoa(n+1)+"=x", "a", "b", want)
		holdParse(t, s+";b*0"+strconv.Itoa(n)+"=x", "a", "b", want)
		holdParse(t, s+";b*"+strconv.Itoa(n)+"*=%41", "a", "b", want+"A")
	}
}

func TestParseSimple(t *testing.T) { // P7.1, third way
	holdParse(t, `a;b="=?ascii?Q?x?="`, "a", "b", "x")
	holdParse(t, "a;b==?latin1?Q?caf=E9_x?=", "a", "b", "caf\u00e9 x")
	holdParse(t, "a;b=x =?l1?Q?=E9?= \t=?l1?B?6Q==?= y", "a", "b", "x \u00e9\u00e9 y")
	holdParse(t, "a;b=\"\\=?ascii?Q?\\x?=\"", "a", "b", "x")
	holdParse(t, "a;b=\xe9%41;c=\u00e9", "a", "b", bad+"%41", "c", "\u00e9")
}

// stretch and piece are a quoted stretch and a piece as chapter 7's words have them.
const stretch = `"(?:[^"\\]|\\.)*(?:"|\\?\z)`

var (
	piece    = regexp.MustCompile(`(?s)(?:[^";]|` + stretch + `)*`)
	closed   = regexp.MustCompile(`(?s)\A"((?:[^"\\]|\\.)*)"`)
	onePair  = regexp.MustCompile(`(?s)\\(.|\z)`)
	inSpaces = regexp.MustCompile(`(?s)\A[ \t\r\n]*(.*?)[ \t\r\n]*\z`)
)

func trimmed(s string) string { return inSpaces.FindStringSubmatch(s)[1] }

func small(s string) string {
	out := []byte(trimmed(s))
	for i, c := range out {
		if 'A' <= c && c <= 'Z' {
			out[i] += 32
		}
	}
	return string(out)
}

// rawByWords is a raw value.
func rawByWords(s string) string {
	s = trimmed(s)
	inner, quoted := strings.CutPrefix(s, `"`)
	if !quoted {
		return s
	}
	if found := closed.FindStringSubmatch(s); found != nil {
		inner = found[1]
	}
	return onePair.ReplaceAllString(inner, "$1")
}

// parseByWords reads as P7.1 says it: all raw names first, then each name's values in their three ways.
func parseByWords(s string) (string, []api.Param) {
	rows := piece.FindAllString(s, -1)
	if len(rows) == 0 {
		rows = []string{""}
	}
	var raws [][2]string
	for _, row := range rows[1:] {
		if at := strings.Index(row, "="); at >= 0 {
			if name := small(row[:at]); name != "" {
				raws = append(raws, [2]string{name, rawByWords(row[at+1:])})
			}
		}
	}
	find := func(name string) (string, bool) {
		at := slices.IndexFunc(raws, func(r [2]string) bool { return r[0] == name })
		if at < 0 {
			return "", false
		}
		return raws[at][1], true
	}
	var out []api.Param
	for i, r := range raws {
		name := strings.Split(r[0], "*")[0]
		told := slices.ContainsFunc(raws[:i], func(other [2]string) bool { return strings.Split(other[0], "*")[0] == name })
		if value, is := valueByWords(find, name); is && !told && name != "" {
			out = append(out, api.Param{Name: name, Value: value})
		}
	}
	return small(rows[0]), out
}

func valueByWords(find func(string) (string, bool), name string) (string, bool) {
	if raw, is := find(name + "*"); is {
		if alphabet, bytes, told := pct.Extended(raw); told {
			value, _ := chars.Decode(alphabet, bytes)
			return value, true
		}
	}
	all, label, n := "", "utf-8", 0
	for ; ; n++ {
		number := name + "*" + strconv.Itoa(n)
		with, isWith := find(number + "*")
		without, isWithout := find(number)
		if !isWith && !isWithout {
			break
		}
		switch alphabet, bytes, told := pct.Extended(with); {
		case !isWith:
			all += without
		case n == 0 && told:
			all, label = bytes, alphabet
		default:
			all += pct.Decode(with)
		}
	}
	if n > 0 {
		value, _ := chars.Decode(label, all)
		return value, true
	}
	raw, is := find(name)
	return word.Decode(raw), is
}

func holdByWords(t *testing.T, s string) {
	t.Helper()
	main, want := parseByWords(s)
	if m, l := param.Parse(s); m != main || !slices.Equal(l, want) {
		t.Fatalf("P7.1: Parse(%q) is %q, %q, not %q, %q", s, m, l, main, want)
	}
}

// holdAllShort holds all texts of at most so many of these pieces, with a text ahead.
func holdAllShort(t *testing.T, ahead string, most int, pieces ...string) {
	t.Helper()
	row := []string{ahead}
	for range most {
		var longer []string
		for _, s := range row {
			for _, one := range pieces {
				longer = append(longer, s+one)
			}
		}
		row = longer
		for _, s := range row {
			holdByWords(t, s)
		}
	}
}

func TestParseAllShort(t *testing.T) { // P7.1
	holdAllShort(t, "", 7, ";", "\"", "\\", "=", "b")
	holdAllShort(t, ";b=", 6, "\"", "\\", ";", " ", "c", "=")
	holdAllShort(t, "A", 4, ";b=x", ";b*=", ";b*0=", ";b*0*=", ";b*1=", ";b*1*=%4", "l1''%E9", "1", ";c=y", "\xc3")
	holdAllShort(t, ";", 5, "b", "*", "0", "=", ";", "''", " ")
}

func TestParseMixed(t *testing.T) { // P7.1
	random := rand.New(rand.NewSource(71))
	tokens := []string{";", ";", "; b", ";c", "*", "0", "1", "*0*", "*1*", "=", "=", "\"", "\\", "utf-8''", "l1'x'", "%C3", "%A9", "%e9", " ", "\t\r\n", "=?l1?Q?=E9?=", "B", "z", "\xff"}
	for range 60000 {
		s := "a"
		for range random.Intn(24) {
			s += tokens[random.Intn(len(tokens))]
		}
		holdByWords(t, s)
	}
}

func holdWrite(t *testing.T, main string, l []api.Param, want string, errno api.Errno) {
	t.Helper()
	if s, e := param.Write(main, l); s != want || e != errno {
		t.Errorf("P7.2: Write(%q, %q) is %q, %d, not %q, %d", main, l, s, e, want, errno)
	}
}

func TestWrite(t *testing.T) { // P7.2
	holdWrite(t, "", nil, "", api.OK)
	holdWrite(t, "a/b", nil, "a/b", api.OK)
	holdWrite(t, "", params("n", ""), "; n=\"\"", api.OK)
	holdWrite(t, "a b", params("n", "v", "az-09", " ;=w "), "a b; n=\"v\"; az-09=\" ;=w \"", api.OK)
	holdWrite(t, "", params("n", "a\"\\"), `; n="a\"\\"`, api.OK)
	holdWrite(t, "\u00e9", params("n", "\u00e9 b", "m", "=?"), "\u00e9; n*=utf-8''%C3%A9%20b; m*=utf-8''%3D%3F", api.OK)
	holdWrite(t, "\xff", params("n", "\xff\"", "m", "=a?", "-", "?="), "\xff; n*=utf-8''%FF%22; m=\"=a?\"; -=\"?=\"", api.OK)
	holdWrite(t, "=?x?=*%41\\'", params("0", "utf-8''%41"), "=?x?=*%41\\'; 0=\"utf-8''%41\"", api.OK)
	holdWrite(t, "a", params("n", strings.Repeat("~", 999)), "a; n=\""+strings.Repeat("~", 999)+"\"", api.OK)
	for _, l := range [][]api.Param{
		{{}}, params("", "v"), params("n", "v", "n", "w"), params("n", "v", "m", "", "n", "v"), params("n", "v", "N", "v"),
		params("n*", "v"), params("n*0", "v"), params("n m", "v"), params(" n", "v"), params("n ", "v"), params("n.", "v"), params("n_", "v"), params("\u00e9", "v"),
		params("n", "v", "m", "\n"), params("n", "v\x7f"),
	} {
		holdWrite(t, "a", l, "", api.ErrArg)
	}
}

func TestWriteEachByte(t *testing.T) { // P7.2
	for c := range 256 {
		b := string([]byte{byte(c)})
		control := c < 32 || c == 127
		for i, main := range []string{b, b + "y", "x" + b, "x" + b + "y"} {
			if control || c == ';' || c == '"' || 'A' <= c && c <= 'Z' || c == ' ' && i < 3 {
				holdWrite(t, main, nil, "", api.ErrArg)
				holdWrite(t, main, params("n", "v"), "", api.ErrArg)
			} else {
				holdWrite(t, main, params("n", "v"), main+"; n=\"v\"", api.OK)
			}
		}
		for _, name := range []string{b, b + "y", "x" + b, "x" + b + "y"} {
			if 'a' <= c && c <= 'z' || '0' <= c && c <= '9' || c == '-' {
				holdWrite(t, "a", params("m-m", "", name, "v"), "a; m-m=\"\"; "+name+"=\"v\"", api.OK)
			} else {
				holdWrite(t, "a", params("m-m", "", name, "v"), "", api.ErrArg)
			}
		}
		for _, value := range []string{b, b + "y", "x" + b, "x" + b + "y"} {
			switch {
			case control:
				holdWrite(t, "a", params("m", "", "n", value), "", api.ErrArg)
			case c > 127:
				holdWrite(t, "a", params("n", value), "a; n*=utf-8''"+pct.Encode(value), api.OK)
			case c == '"' || c == '\\':
				holdWrite(t, "a", params("n", value), "a; n=\""+strings.ReplaceAll(value, b, "\\"+b)+"\"", api.OK)
			default:
				holdWrite(t, "a", params("n", value), "a; n=\""+value+"\"", api.OK)
			}
		}
	}
}

func TestGet(t *testing.T) { // P7.3
	l := params("a", "b", "A", "c", "a", "d", "", "none", "e", "", "e", "f", "\xff", "g")
	for _, c := range []struct {
		name, value string
		is          bool
	}{
		{"a", "b", true}, {"A", "c", true}, {"", "none", true}, {"e", "", true}, {"\xff", "g", true},
		{"E", "", false}, {"b", "", false}, {"a ", "", false}, {" a", "", false}, {"aa", "", false}, {"a*", "", false}, {bad, "", false},
	} {
		if v, is := param.Get(l, c.name); v != c.value || is != c.is {
			t.Errorf("P7.3: Get of %q is %q, %v", c.name, v, is)
		}
	}
	for _, name := range []string{"", "a"} {
		if v, is := param.Get(nil, name); v != "" || is {
			t.Errorf("P7.3: Get of %q of nothing is %q, %v", name, v, is)
		}
	}
}

func TestWhatIsWrittenIsRead(t *testing.T) { // P7.4
	random := rand.New(rand.NewSource(7))
	text := func(most int, signs ...string) string {
		s := ""
		for range random.Intn(most) {
			s += signs[random.Intn(len(signs))]
		}
		return s
	}
	for range 6000 {
		main := strings.Trim(text(8, "a", "/", "=", "\\", "*", "%41", " ", "\u00e9", "\xff", "'", "=?l1?q?x?=", "("), " ")
		var l, want []api.Param
		for i := range random.Intn(6) {
			name := text(4, "a", "z", "-", "0", "9") + strconv.Itoa(i)
			value := text(9, "a", "\"", "\\", ";", "=", " ", "?", "=?", "=?l1?Q?x?=", "'", "%41", "*", "\u00e9", "\xff", "\xe2\x82", "\u20ac")
			l = append(l, params(name, value)...)
			want = append(want, params(name, chars.Valid(value))...)
		}
		s, e := param.Write(main, l)
		if e != api.OK {
			t.Fatalf("P7.4: Write(%q, %q): %d", main, l, e)
		}
		if m, back := param.Parse(s); m != main || !slices.Equal(back, want) {
			t.Fatalf("P7.4: %q, %q is written %q, and comes back as %q, %q", main, l, s, m, back)
		}
	}
}

func TestAnswersAreOnesOwn(t *testing.T) { // R5, R6
	const s = "a;b=c;d*0=e;d*1=f;g*=l1''h"
	_, l := param.Parse(s)
	clear(l)
	holdParse(t, s, "a", "b", "c", "d", "ef", "g", "h")
	given := params("b", "c", "d", "\xff", "e", "f")[:2]
	kept := slices.Clone(given[:3])
	param.Write("a", given)
	param.Get(given, "d")
	if !slices.Equal(given[:3], kept) {
		t.Errorf("R5: what was handed in is %q now", given[:3])
	}
}

func TestLongTextsEnd(t *testing.T) { // R1
	const size = 1 << 18
	for _, one := range []string{";", "\"", "\\", "=", "\"\\", " ", "*", "=\"", ";=", ";b", ";\"", "; b*0=\"x", "=?", "=?l1?Q?"} {
		s := strings.Repeat(one, size)
		param.Parse(s)
		param.Parse("a;b=" + s)
		param.Parse("a;b*0*=\"" + s)
	}
	const many = 1 << 14
	var s strings.Builder
	for i := range many {
		s.WriteString(";b*" + strconv.Itoa(i) + "*=%41")
	}
	holdParse(t, s.String(), "", "b", strings.Repeat("A", many))
	var l []api.Param
	for i := range many {
		l = append(l, params("n"+strconv.Itoa(i), "\u00e9")...)
	}
	written, e := param.Write("a", l)
	if _, back := param.Parse(written); e != api.OK || !slices.Equal(back, l) {
		t.Errorf("P7.4: many parameters: %d bytes, %d", len(written), e)
	}
	holdWrite(t, "a", append(l, l[0]), "", api.ErrArg)
}

package parts_test

import (
	"math/rand"
	"reflect"
	"regexp"
	"runtime/debug"
	"slices"
	"strconv"
	"strings"
	"testing"

	"muslin/api"
	"muslin/lines"
	"muslin/param"
	"muslin/parts"
)

func holdCut(t *testing.T, body, boundary string, want ...string) {
	t.Helper()
	if l := parts.Cut(body, boundary); !slices.Equal(l, want) {
		t.Errorf("P10.1: Cut(%q, %q) is %q, not %q", body, boundary, l, want)
	}
}

func TestCut(t *testing.T) { // P10.1
	holdCut(t, "--x\na\n--x\nb\n--x--\n", "x", "a", "b")
	holdCut(t, "--x\r\na\r\n--x\r\nb\r\n--x--\r\n", "x", "a", "b")
	holdCut(t, "no\r\n--x\r\na\r\n--x \t\r\n\r\n--x--\r\nno\r\n--x\r\nno", "x", "a", "")
	// no pieces
	holdCut(t, "", "x")
	holdCut(t, "a\nb\n", "x")
	holdCut(t, "--\na\n", "")
	holdCut(t, "--\na\n----\n", "")
	holdCut(t, "", "")
	holdCut(t, "--x--\na\n--x--\n", "x")
	holdCut(t, "--xx\n --x\n-x\n-- x\n-x-\nx\n--X\na--x\n", "x")
	holdCut(t, "--x y\n--x-\n--x\v\n--x\u00a0\n", "x")
	// ends of lines
	holdCut(t, "--x\na\n\n--x\nb", "x", "a\n", "b")
	holdCut(t, "--x\r\na\r\n\r\n--x\r\nb", "x", "a\r\n", "b")
	holdCut(t, "--x\na\r\r\n--x\nb", "x", "a\r", "b")
	holdCut(t, "--x\n\n--x\n\r\n--x\n\r\r\n--x\n\n\r\n--x--", "x", "", "", "\r", "\n")
	holdCut(t, "--x\na\n", "x", "a\n")
	holdCut(t, "--x\na\r\n", "x", "a\r\n")
	holdCut(t, "--x\na\r", "x", "a\r")
	holdCut(t, "--x\n\n", "x", "\n")
	holdCut(t, "--x\n\r\n", "x", "\r\n")
	holdCut(t, "--x\n--x\r\n--x \n--x--", "x", "", "", "")
	holdCut(t, "--x", "x", "")
	holdCut(t, "--x\n", "x", "")
	holdCut(t, "--x\t \t", "x", "")
	holdCut(t, "--x\na\n--x", "x", "a", "")
	holdCut(t, "--x\na\n--x--", "x", "a")
	// a carriage return alone ends no line
	holdCut(t, "--x\ra\n", "x")
	holdCut(t, "--x\r", "x")
	holdCut(t, "a\r--x\nb", "x")
	holdCut(t, "--x\r\r\na\n", "x")
	holdCut(t, "--x\na\n--x--\r", "x", "a\n--x--\r")
	holdCut(t, "--x\na\n--x--\r\nb", "x", "a")
}

func TestCutAtTheLastOne(t *testing.T) { // P10.1
	holdCut(t, "--x\na\n--x-- \t\nb\n--x\nc", "x", "a")
	holdCut(t, "--x--\n--x\na", "x", "a")
	holdCut(t, "--x--\nno\n--x\na\n--x--\n--x--\n--x\n", "x", "a")
	for _, line := range []string{"--x--a", "--x --", "--x-- -", "--x---", "--x- -", " --x--", "--x--\v", "--x\t--", "--xx--", "--X--", "--x----"} {
		holdCut(t, "--x\na\n"+line+"\nb\n--x\nc", "x", "a\n"+line+"\nb", "c")
	}
	for _, line := range []string{"--x-", "--x.", "--xx", "--x\ta", "--", " --x", "-x", "---x", "--x\r\r"} {
		holdCut(t, "--x\na\n"+line+"\nb\n--x--\nc", "x", "a\n"+line+"\nb")
	}
}

func TestCutByAnyBoundary(t *testing.T) { // P10.1
	for _, b := range []string{"x", "-", "--", "x--", "--x", " ", "\t", "x ", " x", "x y", "\"", "=_.+?()[]*^$\\", "\xff", "\u00e9", "\x00", "x\ry", strings.Repeat("x", 999)} {
		holdCut(t, "no\n--"+b+"\na\r\n--"+b+" \t\r\nb\n--"+b+"--\nno\n", b, "a", "b")
		holdCut(t, "--"+b+"--\n--"+b+"\na\n", b, "a\n")
		holdCut(t, "--"+b[:len(b)-1]+"\na\n", b)
	}
	holdCut(t, "--x--\na\n--x----", "x--", "a")
	holdCut(t, "--x--\na\n--x--\nb\n--x\n--x----\nno", "x--", "a", "b\n--x")
	// no line has a line feed in it, and none has the carriage return of its end
	holdCut(t, "--x\ny\na\n", "x\ny")
	holdCut(t, "--\n\na\n", "\n")
	holdCut(t, "--x\r\na\n--x\r\r\nb\r\n--x\r", "x\r", "b", "")
}

// cutByPattern cuts as P10.1 says it: the lines are found by patterns, and what stands between them is told.
func cutByPattern(body, boundary string) []string {
	quoted := regexp.QuoteMeta("--" + boundary)
	dividers := regexp.MustCompile(`(?m)(\r?\n|\A)` + quoted + `[ \t]*(\r?\n|\z)`)
	ends := regexp.MustCompile(`(\r?\n|\A)` + quoted + `--[ \t]*(\r?\n|\z)`)
	var out []string
	// The line's end ahead of a divider may be that of another one: so each search begins with it.
	at := dividers.FindStringIndex(body)
	for at != nil {
		rest := body[at[1]:]
		if strings.HasSuffix(body[:at[1]], "\n") {
			rest = "\n" + rest
		} else {
			return append(out, "")
		}
		at = dividers.FindStringIndex(rest)
		end := ends.FindStringIndex(rest)
		switch {
		case end != nil && (at == nil || end[0] < at[0]):
			return append(out, strings.TrimPrefix(rest[:end[0]], "\n"))
		case at == nil:
			return append(out, rest[1:])
		}
		out = append(out, strings.TrimPrefix(rest[:at[0]], "\n"))
		body = rest
	}
	return out
}

// eachShort hands all texts of at most so many of these pieces to look.
func eachShort(most int, look func(s string), pieces ...string) {
	row := []string{""}
	look("")
	for range most {
		var longer []string
		for _, s := range row {
			for _, piece := range pieces {
				longer = append(longer, s+piece)
				look(s + piece)
			}
		}
		row = longer
	}
}

func TestCutAllShort(t *testing.T) { // P10.1
	hold := func(s string) {
		if l, want := parts.Cut(s, "x"), cutByPattern(s, "x"); !slices.Equal(l, want) {
			t.Fatalf("P10.1: Cut(%q, x) is %q, not %q", s, l, want)
		}
	}
	eachShort(6, hold, "--x", "--", "\n", "\r\n", "a")
	eachShort(6, hold, "--x\n", "--x--", "\r", "\n", " ")
	random := rand.New(rand.NewSource(101))
	row := []string{"--x", "--x\n", "\n--x", "\r\n--x\r\n", "--x--", "\n--x--\n", "--", "\n", "\r", "\r\n", " ", "\t", "a", "x", "\xff"}
	for range 20000 {
		s := ""
		for range random.Intn(20) {
			s += row[random.Intn(len(row))]
		}
		hold(s)
	}
}

// many is a multipart of these texts.
func many(boundary string, texts ...string) string {
	s := "Content-Type: multipart/mixed; boundary=\"" + boundary + "\"\n\n"
	for _, text := range texts {
		s += "--" + boundary + "\n" + text + "\n"
	}
	return s + "--" + boundary + "--\n"
}

// inMessages is a text in so many messages.
func inMessages(count int, text string) string {
	return strings.Repeat("Content-Type: message/rfc822\n\n", count) + text
}

// plain is a part with nothing but a body.
func plain(body string) api.Part {
	return api.Part{Kind: "text/plain", Body: body}
}

// same tells whether parts are the same; a list that is empty is the same as one that is none.
func same(p, q api.Part) bool {
	return slices.Equal(p.Fields, q.Fields) && p.Kind == q.Kind && slices.Equal(p.Params, q.Params) && p.Body == q.Body && slices.EqualFunc(p.Parts, q.Parts, same)
}

func holdParse(t *testing.T, s string, want api.Part) {
	t.Helper()
	if p := parts.Parse(s); !same(p, want) {
		t.Errorf("P10.2: Parse(%q) is %q, not %q", s, p, want)
	}
}

func TestParse(t *testing.T) { // P10.2
	holdParse(t, "", plain(""))
	holdParse(t, "\na\r\n", plain("a\r\n"))
	holdParse(t, "a", plain(""))
	holdParse(t, "Subject: s\r\nA: b\r\n\r\nc\n\nd", api.Part{Fields: []api.Field{{Name: "Subject", Value: "s"}, {Name: "A", Value: "b"}}, Kind: "text/plain", Body: "c\n\nd"})
	holdParse(t, "content-TYPE: Text/HTML;\n charset=l1; X=\"y\"\n\nb", api.Part{
		Fields: []api.Field{{Name: "content-TYPE", Value: "Text/HTML; charset=l1; X=\"y\""}},
		Kind:   "text/html",
		Params: []api.Param{{Name: "charset", Value: "l1"}, {Name: "x", Value: "y"}},
		Body:   "b",
	})
	p := parts.Parse("Subject: s\r\nContent-Type: Multipart/Mixed; boundary=\"x\"; a=b\r\n\r\nno\r\n--x\r\n\r\na\r\n--x\r\nContent-Type: message/rfc822\r\n\r\nContent-Type: image/png\r\n\r\nb\r\n--x--\r\nno")
	want := api.Part{
		Fields: []api.Field{{Name: "Subject", Value: "s"}, {Name: "Content-Type", Value: "Multipart/Mixed; boundary=\"x\"; a=b"}},
		Kind:   "multipart/mixed",
		Params: []api.Param{{Name: "boundary", Value: "x"}, {Name: "a", Value: "b"}},
		Parts: []api.Part{plain("a"), {
			Fields: []api.Field{{Name: "Content-Type", Value: "message/rfc822"}},
			Kind:   "message/rfc822",
			Parts:  []api.Part{{Fields: []api.Field{{Name: "Content-Type", Value: "image/png"}}, Kind: "image/png", Body: "b"}},
		}},
	}
	if !same(p, want) {
		t.Errorf("P10.2: %q", p)
	}
}

func TestParseKinds(t *testing.T) { // P10.2
	for value, want := range map[string]string{
		"a/b": "a/b", "A/B; c=d": "a/b", " Text/Html ": "text/html", "a/b/c": "a/b/c", "a//b": "a//b", "a / b": "a / b", "\u00c9/X": "\u00c9/x", "a/b c": "a/b c", "text/plain; c=d": "text/plain", "multipart/x": "multipart/x",
	} {
		_, params := param.Parse(value)
		p := parts.Parse("Content-Type: " + value + "\n\nx")
		if p.Kind != want || !slices.Equal(p.Params, params) || p.Body != "x" || len(p.Parts) != 0 {
			t.Errorf("P10.2: Content-Type %q is %q, %q", value, p.Kind, p.Params)
		}
	}
	for _, value := range []string{"", "x", "text", "/", "//", "/x", "x/", "/x/", "a/b/", "multipart/", "; c=d", "x; c=d", "x/; c=d", "/x; boundary=q", "text; charset=l1", "x; c=a/b", "multipart; boundary=q", "multipart/; boundary=q"} {
		p := parts.Parse("Content-Type: " + value + "\n\n--q\nx")
		if p.Kind != "text/plain" || len(p.Params) != 0 || p.Body != "--q\nx" || len(p.Parts) != 0 || len(p.Fields) != 1 {
			t.Errorf("P10.2: Content-Type %q is %q, %q", value, p.Kind, p.Params)
		}
	}
	// the first field alone
	for s, want := range map[string]string{
		"Content-Type: a/b\nContent-Type: c/d\n\n": "a/b", "Content-Type: x\nContent-Type: c/d\n\n": "text/plain", "Content-Types: a/b\nContent-type: c/d\n\n": "c/d", "\nContent-Type: a/b\n\n": "text/plain", "X-Content-Type: a/b\n\n": "text/plain",
	} {
		if p := parts.Parse(s); p.Kind != want {
			t.Errorf("P10.2: %q is %q, not %q", s, p.Kind, want)
		}
	}
}

func TestParseBodiesOrParts(t *testing.T) { // P10.2
	const body = "--x\n\na\n--x\n\nb"
	two := []api.Part{plain("a"), plain("b")}
	for value, want := range map[string][]api.Part{
		"multipart/mixed; boundary=x": two, "Multipart/X;Boundary=\"x\"": two, "multipart/a/b; boundary=x": two, "multipart//b; boundary=x": two, "multipart/x; boundary*=''%78": two, "multipart/x; boundary*0=\"x\"": two, "multipart/x; boundary=x; boundary=y": two,
		"multipart/x": nil, "multipart/x; boundary=\"\"": nil, "multipart/x; boundary": nil, "multipart/x; boundary=y": nil, "multipart/x; boundary=X": nil, "multipart/x; boundary=y; boundary=x": nil, "multipart/x; bound=x": nil,
		"xmultipart/x; boundary=x": nil, "multiparts/x; boundary=x": nil, "text/plain; boundary=x": nil, "text/multipart/x; boundary=x": nil, "message/multipart; boundary=x": nil,
		"message/rfc822; boundary=x": {plain("a\n--x\n\nb")}, "Message/RFC822": {plain("a\n--x\n\nb")}, "message/rfc822x": nil, "message/rfc82": nil, "message/news": nil, "xmessage/rfc822": nil, "message/rfc822/x": nil,
	} {
		p := parts.Parse("Content-Type: " + value + "\n\n" + body)
		text := ""
		if want == nil {
			text = body
		}
		if !slices.EqualFunc(p.Parts, want, same) || p.Body != text {
			t.Errorf("P10.2: Content-Type %q: %q, body %q", value, p.Parts, p.Body)
		}
	}
	for body, want := range map[string][]api.Part{
		"": nil, "--x--\n": nil, "a\n--xx\n": nil, "--x": {plain("")}, "--x\n--x\n--x--": {plain(""), plain("")}, "--x\na\n--x--": {plain("")}, "--x\n\n\n--x--": {plain("")}, "--x\n\na\n": {plain("a\n")},
	} {
		p := parts.Parse("Content-Type: multipart/x; boundary=x\n\n" + body)
		text := ""
		if want == nil {
			text = body
		}
		if !slices.EqualFunc(p.Parts, want, same) || p.Body != text {
			t.Errorf("P10.2: %q: %q, body %q", body, p.Parts, p.Body)
		}
	}
	// a piece may have the boundary of what it is in, and then has no pieces
	inner := parts.Parse(many("x", "\na", many("y", "\nb", "\nc"), many("x"), "\nd"))
	if len(inner.Parts) != 3 || len(inner.Parts[1].Parts) != 2 || inner.Parts[2].Kind != "multipart/mixed" || len(inner.Parts[2].Parts) != 0 || parts.Count(inner) != 6 {
		t.Errorf("P10.2: %q", inner)
	}
	empty := parts.Parse("Content-Type: message/rfc822")
	if !slices.EqualFunc(empty.Parts, []api.Part{plain("")}, same) || empty.Body != "" {
		t.Errorf("P10.2: %q", empty)
	}
}

func TestParseDeep(t *testing.T) { // P10.2, P10.4
	for count := range 40 {
		p := parts.Parse(inMessages(count, "\nx"))
		if want := min(count, 30); parts.Depth(p) != want || parts.Count(p) != want+1 {
			t.Fatalf("P10.2: %d messages in one another: %d deep, %d parts", count, parts.Depth(p), parts.Count(p))
		}
		for len(p.Parts) > 0 {
			if len(p.Parts) != 1 || p.Body != "" || p.Kind != "message/rfc822" {
				t.Fatalf("P10.2: %q", p)
			}
			p = p.Parts[0]
		}
		want := plain("x")
		if count > 30 {
			want = api.Part{Fields: []api.Field{{Name: "Content-Type", Value: "message/rfc822"}}, Kind: "message/rfc822", Body: inMessages(count-31, "\nx")}
		}
		if !same(p, want) {
			t.Fatalf("P10.2: in %d others: %q", count, p)
		}
	}
	for count := range 33 {
		p := parts.Parse(inMessages(count, many("x", "\na", "\nb")))
		for range min(count, 30) {
			p = p.Parts[0]
		}
		switch {
		case count < 30 && (p.Kind != "multipart/mixed" || !slices.EqualFunc(p.Parts, []api.Part{plain("a"), plain("b")}, same) || p.Body != ""):
			t.Errorf("P10.2: in %d others: %q", count, p)
		case count == 30 && (p.Kind != "multipart/mixed" || len(p.Parts) != 0 || p.Body != "--x\n\na\n--x\n\nb\n--x--\n" || len(p.Params) != 1):
			t.Errorf("P10.2: in %d others: %q", count, p)
		}
	}
	// multiparts in one another, each with one more piece behind the inner one
	s := "\nx"
	for i := range 40 {
		s = many("b"+strconv.Itoa(i)+"e", s, "\ny")
	}
	if p := parts.Parse(s); parts.Depth(p) != 30 || parts.Count(p) != 61 {
		t.Errorf("P10.2: %d deep, %d parts", parts.Depth(p), parts.Count(p))
	}
}

func TestParseMany(t *testing.T) { // P10.2, P10.4
	for _, count := range []int{1, 2, 98, 99, 100, 101, 500} {
		var texts []string
		var want []api.Part
		for i := range count {
			texts = append(texts, "\n"+strconv.Itoa(i))
			if i < 99 {
				want = append(want, plain(strconv.Itoa(i)))
			}
		}
		p := parts.Parse(many("x", texts...))
		if !slices.EqualFunc(p.Parts, want, same) || p.Body != "" || parts.Count(p) != len(want)+1 || parts.Depth(p) != 1 {
			t.Errorf("P10.2: of %d pieces: %d parts", count, parts.Count(p))
		}
	}
	// the first one's parts are ahead of the next one
	fifty := slices.Repeat([]string{"\na"}, 50)
	p := parts.Parse(many("x", many("y", fifty...), many("z", fifty...), "\nb"))
	if len(p.Parts) != 2 || len(p.Parts[0].Parts) != 50 || len(p.Parts[1].Parts) != 47 || parts.Count(p) != 100 {
		t.Errorf("P10.2: %d parts", parts.Count(p))
	}
	p = parts.Parse(many("x", "\na", many("y", slices.Repeat([]string{"\na"}, 200)...), "\nb"))
	if len(p.Parts) != 2 || len(p.Parts[1].Parts) != 97 || parts.Count(p) != 100 {
		t.Errorf("P10.2: %d parts", parts.Count(p))
	}
	// the last one that is made has none, though its pieces would be
	most := slices.Repeat([]string{"\na"}, 98)
	for _, text := range []string{many("y", "\nb", "\nc"), inMessages(1, "\nb")} {
		p = parts.Parse(many("x", append(most[:98:98], text, "\nd")...))
		if end := p.Parts[len(p.Parts)-1]; len(p.Parts) != 99 || len(end.Parts) != 0 || end.Body != "" || len(end.Fields) != 1 || end.Kind == "text/plain" || parts.Count(p) != 100 {
			t.Errorf("P10.2: %q", end)
		}
		p = parts.Parse(many("x", append(most[:97:97], text, "\nd")...))
		if end := p.Parts[97]; !slices.EqualFunc(end.Parts, []api.Part{plain("b")}, same) || end.Body != "" || parts.Count(p) != 100 {
			t.Errorf("P10.2: %q", end)
		}
	}
	// but what has no pieces is a body
	p = parts.Parse(many("x", append(most[:98:98], "Content-Type: multipart/x; boundary=y\n\nb")...))
	if end := p.Parts[98]; len(end.Parts) != 0 || end.Body != "b" || parts.Count(p) != 100 {
		t.Errorf("P10.2: %q", end)
	}
}

// parseAll parses as P10.2 says it, but for the bound of parts in all.
func parseAll(s string, in int) api.Part {
	fields, rest := lines.Head(s)
	p := api.Part{Fields: fields, Kind: "text/plain"}
	for _, f := range fields {
		if strings.EqualFold(f.Name, "content-type") {
			if main, params := param.Parse(f.Value); len(strings.Split(main, "/")) > 1 && main[0] != '/' && main[len(main)-1] != '/' {
				p.Kind, p.Params = main, params
			}
			break
		}
	}
	boundary, _ := param.Get(p.Params, "boundary")
	texts := cutOf(rest, boundary)
	switch {
	case in == 30:
		p.Body = rest
	case strings.HasPrefix(p.Kind, "multipart/") && len(texts) > 0:
		for _, text := range texts {
			p.Parts = append(p.Parts, parseAll(text, in+1))
		}
	case p.Kind == "message/rfc822":
		p.Parts = []api.Part{parseAll(rest, in+1)}
	default:
		p.Body = rest
	}
	return p
}

func cutOf(body, boundary string) []string {
	if boundary == "" {
		return nil
	}
	return cutByPattern(body, boundary)
}

// firstOnes leaves out all parts but the first so many, and tells how many are left of that number.
func firstOnes(p api.Part, number int) (api.Part, int) {
	number--
	var kept []api.Part
	for _, part := range p.Parts {
		if number > 0 {
			part, number = firstOnes(part, number)
			kept = append(kept, part)
		}
	}
	p.Parts = kept
	return p, number
}

func TestParseMixed(t *testing.T) { // P10.2, P10.3, P10.4
	random := rand.New(rand.NewSource(102))
	row := []string{"--x\n", "--x\n", "--y\n", "\r\n--y\r\n", "\n", "\n", "a", "b\r\n", "Content-Type: multipart/mixed; boundary=x\n\n", "Content-Type: multipart/y;\n boundary=\"y\"\n\n", "Content-Type: message/rfc822\n\n", "Content-Type: x\n", "content-type: text/html; boundary=x\n", "A: b\n", "\xff", "--y--\n", "--x--\n"}
	most := 0
	for i := range 6000 {
		s := "Content-Type: multipart/mixed; boundary=x\n\n--x\n"
		size, kinds := 20, len(row)
		if i%20 == 0 {
			size, kinds = 600, len(row)-1-random.Intn(2)
		}
		for range random.Intn(size) {
			s += row[random.Intn(kinds)]
		}
		p := parts.Parse(s)
		if want, _ := firstOnes(parseAll(s, 0), 100); !same(p, want) {
			t.Fatalf("P10.2: Parse(%q) is %q, not %q", s, p, want)
		}
		count, depth := countOf(p), depthOf(p)
		if parts.Count(p) != count || parts.Depth(p) != depth || count > 100 || depth > 30 {
			t.Fatalf("P10.3, P10.4: %q: %d, %d, not %d, %d", s, parts.Count(p), parts.Depth(p), count, depth)
		}
		most = max(most, count)
	}
	if most < 100 {
		t.Errorf("none of these has more than %d parts", most)
	}
}

func countOf(p api.Part) int {
	count := 1
	for _, part := range p.Parts {
		count += countOf(part)
	}
	return count
}

func depthOf(p api.Part) int {
	depth := 0
	for _, part := range p.Parts {
		depth = max(depth, 1+depthOf(part))
	}
	return depth
}

func TestCountAndDepth(t *testing.T) { // P10.3
	leaf := api.Part{Body: "a"}
	in := func(l ...api.Part) api.Part { return api.Part{Parts: l} }
	for i, c := range []struct {
		p            api.Part
		count, depth int
	}{
		{api.Part{}, 1, 0}, {leaf, 1, 0}, {in(leaf), 2, 1}, {in(leaf, leaf, leaf), 4, 1}, {in(in(leaf)), 3, 2}, {api.Part{Parts: []api.Part{}}, 1, 0},
		{in(leaf, in(leaf, in(leaf)), leaf), 7, 3}, {in(in(in(leaf)), in(leaf), leaf), 7, 3}, {in(leaf, in(in(in(leaf, leaf), leaf))), 8, 4},
		{in(slices.Repeat([]api.Part{in(leaf, leaf)}, 500)...), 1501, 2},
	} {
		if n, d := parts.Count(c.p), parts.Depth(c.p); n != c.count || d != c.depth {
			t.Errorf("P10.3: case %d: %d parts, %d deep, not %d, %d", i, n, d, c.count, c.depth)
		}
	}
	random := rand.New(rand.NewSource(103))
	var grown func(most int) api.Part
	grown = func(most int) api.Part {
		var p api.Part
		for range random.Intn(most + 1) {
			p.Parts = append(p.Parts, grown(most-1))
		}
		return p
	}
	for range 300 {
		p := grown(6)
		if n, d := parts.Count(p), parts.Depth(p); n != countOf(p) || d != depthOf(p) {
			t.Fatalf("P10.3: %d parts, %d deep, not %d, %d", n, d, countOf(p), depthOf(p))
		}
	}
}

func TestCountAndDepthOfDeepOnes(t *testing.T) { // P10.3, R1
	const levels = 200000
	// With so little room for calls, one for each level would end the program.
	defer debug.SetMaxStack(debug.SetMaxStack(1 << 21))
	var p api.Part
	for range levels {
		p = api.Part{Parts: []api.Part{p}}
	}
	if n, d := parts.Count(p), parts.Depth(p); n != levels+1 || d != levels {
		t.Errorf("P10.3: %d parts, %d deep", n, d)
	}
}

func TestAnswersAreOnesOwn(t *testing.T) { // R5, R6
	s := many("x", "A: b\nContent-Type: a/b; c=d; e=f\n\na", many("y", "\nb", "\nc"), "A: b\nContent-Type: a/b; c=d; e=f\n\na")
	p := parts.Parse(s)
	kept := parts.Parse(s)
	if !reflect.DeepEqual(p, kept) {
		t.Fatalf("R6: %q, then %q", p, kept)
	}
	// What is put behind one list, or into it, is in no other.
	one := &p.Parts[0]
	_ = append(one.Fields, api.Field{Name: "X"}, api.Field{Name: "Y"})
	_ = append(one.Params, api.Param{Name: "X"}, api.Param{Name: "Y"})
	_ = append(p.Parts[1].Parts, api.Part{Kind: "x"}, api.Part{Kind: "y"})
	_ = append(p.Parts, api.Part{Kind: "x"})
	if !reflect.DeepEqual(p, kept) {
		t.Errorf("R5: %q, not %q", p, kept)
	}
	clear(one.Fields)
	clear(one.Params)
	clear(p.Parts[1].Parts)
	if !reflect.DeepEqual(p.Parts[2], kept.Parts[2]) || !reflect.DeepEqual(parts.Parse(s), kept) {
		t.Errorf("R5: %q", p.Parts[2])
	}
	count, depth := parts.Count(kept), parts.Depth(kept)
	if !reflect.DeepEqual(parts.Parse(s), kept) || count != 6 || depth != 2 {
		t.Errorf("R5: what was handed in is %q now", kept)
	}
	l := parts.Cut("--x\na\n--x\nb", "x")
	_ = append(l, "c")
	l[0] = "d"
	holdCut(t, "--x\na\n--x\nb", "x", "a", "b")
}

func TestLongTextsEnd(t *testing.T) { // R1, P10.4
	const size = 1 << 16
	for _, one := range []string{"\n", "\r\n", "--x\n", "--x", "--x--\n", "--", "\n--x\n\n", "--x\n" + "Content-Type: multipart/x; boundary=x\n\n", "Content-Type: message/rfc822\n\n", "--x\nContent-Type: message/rfc822\n\n", "A: b\n", ";", "\xff"} {
		s := strings.Repeat(one, size)
		parts.Cut(s, "x")
		parts.Cut(s, s)
		for _, begin := range []string{"", "Content-Type: multipart/x; boundary=x\n\n", inMessages(20, "Content-Type: multipart/x; boundary=x\n\n"), "Content-Type: "} {
			if p := parts.Parse(begin + s); parts.Count(p) > 100 || parts.Depth(p) > 30 {
				t.Errorf("P10.4: many of %q: %d parts, %d deep", one, parts.Count(p), parts.Depth(p))
			}
		}
	}
	// A long boundary, and many lines that begin as it does.
	boundary := strings.Repeat("x", size)
	holdCut(t, strings.Repeat("--x\n", size)+"--"+boundary+"\na", boundary, "a")
}

package quote_test

import (
	"math/rand"
	"strings"
	"testing"

	"muslin/quote"
)

func TestRead(t *testing.T) {
	for _, c := range []struct {
		s, said string
		size    int
	}{
		{``, "", 0}, {`a`, "", 0}, {`a"b"`, "", 0}, {` "b"`, "", 0}, {`\"b"`, "", 0}, {`'b'`, "", 0},
		{`"`, "", 1}, {`""`, "", 2}, {`"""`, "", 2}, {`"a"`, "a", 3}, {`"a" b`, "a", 3}, {`"a""b"`, "a", 3}, {`" a; "`, " a; ", 6},
		{`"a\"b"`, `a"b`, 6}, {`"a\\"b"`, `a\`, 5}, {`"\\\""`, `\"`, 6}, {`"\a\;\é"`, "a;é", 9}, {`"\n"`, "n", 4},
		{`"a`, "a", 2}, {`"a\`, "a", 3}, {`"a\\`, `a\`, 4}, {`"a\"`, `a"`, 4}, {`"\`, "", 2}, {"\"\\\n\xff\x00", "\n\xff\x00", 5},
	} {
		if said, size := quote.Read(c.s); said != c.said || size != c.size {
			t.Errorf("Read(%q) is %q, %d, not %q, %d", c.s, said, size, c.said, c.size)
		}
	}
}

func TestWrite(t *testing.T) {
	for s, want := range map[string]string{
		``: `""`, `a b`: `"a b"`, `"`: `"\""`, `\`: `"\\"`, `\"`: `"\\\""`, `a"b\c`: `"a\"b\\c"`, "\xff\n;é": "\"\xff\n;é\"",
	} {
		if u := quote.Write(s); u != want {
			t.Errorf("Write(%q) is %q, not %q", s, u, want)
		}
	}
}

func TestWhatIsWrittenIsRead(t *testing.T) {
	random := rand.New(rand.NewSource(7))
	for n := range 300 {
		b := make([]byte, n)
		random.Read(b)
		for i := range b {
			if random.Intn(3) == 0 {
				b[i] = `"\`[random.Intn(2)]
			}
		}
		s := string(b)
		written := quote.Write(s)
		if said, size := quote.Read(written + s); said != s || size != len(written) {
			t.Fatalf("%q comes back as %q, %d bytes", s, said, size)
		}
	}
	s := strings.Repeat(`\`, 1<<20)
	if said, size := quote.Read(`"` + s); len(said) != len(s)/2 || size != len(s)+1 {
		t.Errorf(`many \: %d, %d bytes`, len(said), size)
	}
}

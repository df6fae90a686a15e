package ascii_test

import (
	"strconv"
	"strings"
	"testing"

	"muslin/ascii"
)

func TestLower(t *testing.T) {
	for c := range 256 {
		b := string([]byte{byte(c)})
		want := b
		if i := strings.Index("ABCDEFGHIJKLMNOPQRSTUVWXYZ", b); i >= 0 {
			want = "abcdefghijklmnopqrstuvwxyz"[i : i+1]
		}
		if u := ascii.Lower("A" + b + "z"); u != "a"+want+"z" {
			t.Errorf("byte %d: %q", c, u)
		}
	}
	for _, s := range []string{"", "\u00c9\u0130\u212a\u017f", "\xff\xc3"} {
		if u := ascii.Lower(s); u != s {
			t.Errorf("%q: %q", s, u)
		}
	}
}

func TestLetter(t *testing.T) {
	const letters = "abcdefghijklmnopqrstuvwxyzABCDEFGHIJKLMNOPQRSTUVWXYZ"
	for c := range 256 {
		if ascii.Letter(byte(c)) != (strings.IndexByte(letters, byte(c)) >= 0) {
			t.Errorf("byte %d: %v", c, ascii.Letter(byte(c)))
		}
	}
}

func TestPlain(t *testing.T) {
	const plain = "abcdefghijklmnopqrstuvwxyzABCDEFGHIJKLMNOPQRSTUVWXYZ0123456789"
	for _, marks := range []string{"", "-", "-._~", " #\x00\xff"} {
		for c := range 256 {
			b := string([]byte{byte(c)})
			want := strings.Contains(plain+marks, b)
			if ascii.Plain(byte(c), marks) != want {
				t.Errorf("byte %d, marks %q: not %v", c, marks, want)
			}
			for _, s := range []string{b, b + "a", "Z" + b, "0" + b + "9"} {
				if ascii.AllPlain(s, marks) != want {
					t.Errorf("%q, marks %q: not %v", s, marks, want)
				}
			}
		}
		if !ascii.AllPlain("", marks) {
			t.Errorf("marks %q: each byte of nothing is one", marks)
		}
	}
}

func TestWithin(t *testing.T) {
	for c := range 256 {
		b := string([]byte{byte(c)})
		want := '!' <= c && c <= '~'
		for _, s := range []string{b, b + "!", "~" + b, "a" + b + "z"} {
			if ascii.Within(s, '!', '~') != want {
				t.Errorf("%q: not %v", s, want)
			}
		}
		if !ascii.Within(b, 0, 255) || ascii.Within(b, 255, 0) {
			t.Errorf("byte %d: all bytes, or none", c)
		}
	}
	if !ascii.Within("", '!', '~') || !ascii.Within("", 255, 0) {
		t.Error("each byte of nothing is one")
	}
}

func TestControl(t *testing.T) {
	for c := range 256 {
		b := string([]byte{byte(c)})
		want := c < 32 || c == 127
		for _, s := range []string{b, b + " ", "~" + b, "a" + b + "\xff"} {
			if ascii.Control(s) != want {
				t.Errorf("%q: not %v", s, want)
			}
		}
	}
	if ascii.Control("") {
		t.Error("nothing has none")
	}
}

func TestHex(t *testing.T) {
	const small = "0123456789abcdef"
	for c := range 256 {
		lower := small[c/16:c/16+1] + small[c%16:c%16+1]
		upper := strings.ToUpper(lower)
		if u := ascii.Hex(byte(c)); u != upper {
			t.Errorf("byte %d: %q", c, u)
		}
		for _, s := range []string{lower, upper, upper + "0", lower + "x"} {
			if u, ok := ascii.FromHex(s); u != byte(c) || !ok {
				t.Errorf("%q: %d, %v", s, u, ok)
			}
		}
	}
}

func TestFromHexOfWhatIsNone(t *testing.T) {
	for high := range 256 {
		for low := range 256 {
			s := string([]byte{byte(high), byte(low)})
			want, err := strconv.ParseUint(s, 16, 8)
			if u, ok := ascii.FromHex(s); ok != (err == nil) || ok && uint64(u) != want || !ok && u != 0 {
				t.Errorf("%q: %d, %v", s, u, ok)
			}
		}
	}
	for _, s := range []string{"", "4", "f", "\xc3", " 41", "4 1", "x41"} {
		if u, ok := ascii.FromHex(s); u != 0 || ok {
			t.Errorf("%q: %d, %v", s, u, ok)
		}
	}
}

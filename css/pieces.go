package css

const (
	pieceEnd = ';'
	double   = '"'
	single   = '\''
	pair     = '\\' // with the byte behind it
	bracket  = '('
	closes   = ')'
)

// pieces are those of a style between the signs that end one.
func pieces(s string) []string {
	var out []string
	var open opened
	first := 0
	for i := range len(s) {
		if open.read(s[i]) {
			out = append(out, s[first:i])
			first = i + 1
		}
	}
	return append(out, s[first:])
}

// opened are the signs that opened what is not closed yet, the innermost one last.
type opened []byte

// read goes on by a byte, and tells whether that ends a piece.
func (o *opened) read(c byte) bool {
	switch innermost := o.innermost(); innermost {
	case pair:
		// Whatever this byte is, it opens and closes nothing else.
		o.close()
	case double, single:
		if c == innermost {
			o.close()
		} else if c == pair {
			o.open(c)
		}
	default:
		return o.readOutside(c)
	}
	return false
}

// readOutside does so outside of quotes.
func (o *opened) readOutside(c byte) bool {
	switch c {
	case double, single, bracket:
		o.open(c)
	case closes:
		o.close()
	case pieceEnd:
		return len(*o) == 0
	}
	return false
}

// innermost is the sign that opened the innermost one; 0: nothing is open.
func (o *opened) innermost() byte {
	if len(*o) == 0 {
		return 0
	}
	return (*o)[len(*o)-1]
}

// open opens one.
func (o *opened) open(sign byte) {
	*o = append(*o, sign)
}

// close closes the innermost one, if there is one.
func (o *opened) close() {
	*o = (*o)[:max(len(*o)-1, 0)]
}

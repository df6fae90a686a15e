package addr

// place is where a byte of a text stands.
type place int

const (
	outside    place = iota // of all stretches
	inQuotes                // or one of their signs
	inRemark                // or in a remark in it
	remarkSign              // that begins or ends a remark that is in no other
)

// machine takes the bytes of a text in, one by one, and knows what is open there.
type machine struct {
	quoted  bool
	remarks int  // that stand in one another
	paired  bool // whether the byte that comes belongs to the `\` ahead of it
}

// walk goes through a text, and tells of each byte where it stands.
func walk(s string, look func(i int, c byte, where place)) {
	var m machine
	for i := range len(s) {
		look(i, s[i], m.take(s[i]))
	}
}

// take takes the next byte in, and tells where it stands.
func (m *machine) take(c byte) place {
	switch {
	case m.quoted:
		m.quoted = m.inPair(c) || c != '"'
		return inQuotes
	case m.remarks > 0:
		return m.takeInRemark(c)
	case c == '"':
		m.quoted = true
		return inQuotes
	case c == '(':
		m.remarks = 1
		return remarkSign
	}
	return outside
}

// takeInRemark takes a byte in while a remark is open.
func (m *machine) takeInRemark(c byte) place {
	if m.inPair(c) {
		return inRemark
	}
	switch c {
	case '(':
		m.remarks++
	case ')':
		m.remarks--
	}
	if m.remarks == 0 {
		return remarkSign
	}
	return inRemark
}

// inPair tells whether a byte in a stretch is a `\`, or belongs to one: it begins and ends nothing then.
func (m *machine) inPair(c byte) bool {
	belongs := m.paired
	m.paired = !belongs && c == '\\'
	return belongs || m.paired
}

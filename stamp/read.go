package stamp

import (
	"strings"

	"muslin/api"
	"muslin/ascii"
)

const (
	between  = " \t,"
	remark   = "("
	timeSign = ":"
)

const (
	noSeconds = "00"
	noZone    = "+0000"
)

// zone is a zone's name, and its time ahead of that of Greenwich.
type zone struct {
	name  string
	hours int
}

// zones have their names in small letters.
var zones = [12]zone{
	{"ut", 0}, {"utc", 0}, {"gmt", 0}, {"z", 0},
	{"est", -5}, {"edt", -4}, {"cst", -6}, {"cdt", -5}, {"mst", -7}, {"mdt", -6}, {"pst", -8}, {"pdt", -7},
}

// Parse reads a date: the seconds since the year 1970 began.
func Parse(s string) (int, api.Errno) {
	row := tokens(s)
	if len(row) > 0 && isDayName(row[0]) {
		row = row[1:]
	}
	if len(row) == 4 {
		row = append(row, noZone)
	}
	if len(row) != 5 {
		return 0, api.ErrForm
	}
	days, isDay := readDay(row[0], row[1], row[2])
	seconds, isTime := readTime(row[3])
	ahead, isZone := readZone(row[4])
	if !isDay || !isTime || !isZone {
		return 0, api.ErrForm
	}
	return days*daySeconds + seconds - ahead, api.OK
}

// tokens are those ahead of the first remark, in small letters.
func tokens(s string) []string {
	row := strings.FieldsFunc(ascii.Lower(s), func(r rune) bool { return strings.ContainsRune(between, r) })
	for i, token := range row {
		if strings.HasPrefix(token, remark) {
			return row[:i]
		}
	}
	return row
}

// isDayName tells whether a token is a day's name.
func isDayName(token string) bool {
	for _, name := range dayNames {
		if ascii.Lower(name) == token {
			return true
		}
	}
	return false
}

// readDay is the number of the day that three tokens tell; false: they tell none.
func readDay(day, month, year string) (int, bool) {
	if len(day) != 1 && len(day) != 2 {
		return 0, false
	}
	d, isDay := number(day)
	y, isYear := readYear(year)
	if !isDay || !isYear {
		return 0, false
	}
	// What is no month's name is month 0, which may not be.
	days, errno := Days(y, readMonth(month), d)
	return days, errno == api.OK
}

// readYear reads a year of four digits, or of two; false: it is none.
func readYear(token string) (int, bool) {
	n, is := number(token)
	switch {
	case !is:
		return 0, false
	case len(token) == 4:
		return n, true
	case len(token) != 2:
		return 0, false
	case n < 50:
		return 2000 + n, true
	}
	return 1900 + n, true
}

// readMonth is the number of the month of a name; 0: there is none.
func readMonth(token string) int {
	for i, name := range monthNames {
		if ascii.Lower(name) == token {
			return i + 1
		}
	}
	return 0
}

// readTime is how many seconds a time stands behind a day's begin; false: it is none.
func readTime(token string) (int, bool) {
	row := strings.Split(token, timeSign)
	if len(row) == 2 {
		row = append(row, noSeconds)
	}
	if len(row) != 3 {
		return 0, false
	}
	return readClock(row[0], row[1], row[2])
}

// readZone is how many seconds a zone is ahead of the time of Greenwich; false: it is none.
func readZone(token string) (int, bool) {
	for _, z := range zones {
		if z.name == token {
			return z.hours * hourSeconds, true
		}
	}
	if len(token) != len(noZone) {
		return 0, false
	}
	ahead, is := readClock(token[1:3], token[3:], noSeconds)
	switch token[0] {
	case '+':
		return ahead, is
	case '-':
		return -ahead, is
	}
	return 0, false
}

// readClock is how many seconds hours, minutes and seconds of two digits each are; false: one of them may not be.
func readClock(hours, minutes, seconds string) (int, bool) {
	h, isHour := below(hours, 24)
	m, isMinute := below(minutes, 60)
	s, isSecond := below(seconds, 60)
	if !isHour || !isMinute || !isSecond {
		return 0, false
	}
	return h*hourSeconds + m*minuteSeconds + s, true
}

// below reads a number of two digits that is below a bound; false: it is none.
func below(s string, bound int) (int, bool) {
	n, is := number(s)
	if !is || len(s) != 2 || n >= bound {
		return 0, false
	}
	return n, true
}

// number reads digits; false: there are other signs, or none, or more digits than any number has here.
func number(s string) (int, bool) {
	if s == "" || len(s) > 4 || !ascii.Within(s, '0', '9') {
		return 0, false
	}
	n := 0
	for i := range len(s) {
		n = n*10 + int(s[i]-'0')
	}
	return n, true
}

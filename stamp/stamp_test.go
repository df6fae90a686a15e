package stamp_test

import (
	"math"
	"math/rand"
	"regexp"
	"strconv"
	"strings"
	"testing"
	"time"

	"muslin/api"
	"muslin/stamp"
)

const (
	first = -2208988800  // the first second of 1900
	last  = 253402300799 // the last one of 9999
)

const layout = "Mon, 02 Jan 2006 15:04:05 -0700"

func holdDays(t *testing.T, year, month, day, want int, errno api.Errno) {
	t.Helper()
	if n, e := stamp.Days(year, month, day); n != want || e != errno {
		t.Errorf("P9.1: Days(%d, %d, %d) is %d, %d, not %d, %d", year, month, day, n, e, want, errno)
	}
}

func TestDays(t *testing.T) { // P9.1
	holdDays(t, 1970, 1, 1, 0, api.OK)
	holdDays(t, 1970, 2, 1, 31, api.OK)
	holdDays(t, 1970, 12, 31, 364, api.OK)
	holdDays(t, 1969, 12, 31, -1, api.OK)
	holdDays(t, 1969, 1, 1, -365, api.OK)
	holdDays(t, 1900, 1, 1, -25567, api.OK)
	holdDays(t, 1900, 3, 1, -25567+59, api.OK)
	holdDays(t, 1972, 3, 1, 2*365+60, api.OK)
	holdDays(t, 2000, 2, 29, 11016, api.OK)
	holdDays(t, 9999, 12, 31, 2932896, api.OK)
}

// eachDay hands each day that may be to look, with its number.
func eachDay(look func(day time.Time, number int)) {
	number := first / 86400
	for day := time.Unix(first, 0).UTC(); day.Year() <= 9999; day = day.AddDate(0, 0, 1) {
		look(day, number)
		number++
	}
}

func TestDaysOfEachDay(t *testing.T) { // P9.1, P9.4
	eachDay(func(day time.Time, number int) {
		if n, e := stamp.Days(day.Year(), int(day.Month()), day.Day()); n != number || e != api.OK {
			t.Fatalf("P9.1: %s is %d, %d, not %d", day.Format(layout), n, e, number)
		}
	})
}

func TestDaysThatMayNotBe(t *testing.T) { // P9.1
	for year := 1890; year < 2500; year++ {
		for month := -2; month < 16; month++ {
			for day := -2; day < 36; day++ {
				same := time.Date(year, time.Month(month), day, 0, 0, 0, 0, time.UTC)
				is := same.Year() == year && int(same.Month()) == month && same.Day() == day
				if _, e := stamp.Days(year, month, day); (e == api.OK) != (is && year >= 1900) || e != api.OK && e != api.ErrArg {
					t.Fatalf("P9.1: Days(%d, %d, %d): %d", year, month, day, e)
				}
			}
		}
	}
	for _, year := range []int{1899, 0, -1970, 10000, 19999, math.MinInt, math.MaxInt} {
		holdDays(t, year, 1, 1, 0, api.ErrArg)
		holdDays(t, year, 12, 31, 0, api.ErrArg)
	}
	for _, wild := range []int{math.MinInt, math.MinInt + 1, math.MaxInt, 1 << 32, 1<<32 + 1, -1 << 32} {
		holdDays(t, 1970, wild, 1, 0, api.ErrArg)
		holdDays(t, 1970, 1, wild, 0, api.ErrArg)
		holdDays(t, wild, wild, wild, 0, api.ErrArg)
	}
}

func holdParse(t *testing.T, s string, want int) {
	t.Helper()
	if n, e := stamp.Parse(s); n != want || e != api.OK {
		t.Errorf("P9.2: Parse(%q) is %d, %d, not %d", s, n, e, want)
	}
}

func holdNoParse(t *testing.T, row ...string) {
	t.Helper()
	for _, s := range row {
		if n, e := stamp.Parse(s); n != 0 || e != api.ErrForm {
			t.Errorf("P9.2: Parse(%q) is %d, %d, not 0, %d", s, n, e, api.ErrForm)
		}
	}
}

func TestParse(t *testing.T) { // P9.2
	holdParse(t, "Thu, 01 Jan 1970 00:00:00 +0000", 0)
	holdParse(t, "Fri, 2 Jan 1970 01:00:00 +0100", 86400)
	holdParse(t, "2 Jan 70 00:00", 86400)
	holdParse(t, "1 Jan 1970 01:02:03", 3723)
	holdParse(t, "1 Jan 1970 23:59:59", 86399)
	holdParse(t, "31 Dec 1969 23:59:59 -0000", -1)
	holdParse(t, "1 Jan 1900 00:00 +2359", first-23*3600-59*60)
	holdParse(t, "31 Dec 9999 23:59:59 -2359", last+23*3600+59*60)
	holdParse(t, "29 Feb 2000 00:00", 11016*86400)
}

func TestParseTokens(t *testing.T) { // P9.2
	const want = 86400 + 60
	for _, s := range []string{
		"fri 2 jan 1970 00:01 gmt", "FRI,2,JAN,1970,00:01,GMT", " \t,,fRi\t2 , jAn\t\t1970 ,00:01,", "2 Jan 1970 00:01 (x", "2 Jan 1970 00:01 z (x) y",
		"2 Jan 1970 00:01 (2 Jan 1970 00:01)", "2 Jan 1970 00:01 ( x\n", "2 Jan 1970 00:01,(", "Mon 2 Jan 1970 00:01",
	} {
		holdParse(t, s, want)
	}
	holdNoParse(t, "", " ", ",", "(", "(x) 2 Jan 1970 00:01", "2 Jan 1970 (x) 00:01", "2 Jan 1970 00:01(x)", "2 Jan 1970 00:01 +0000(x)", "2 Jan 1970 00:01 )",
		"2\nJan\n1970\n00:01", "2 Jan 1970 00:01\n", "2 Jan 1970 00:01\r\n", "2 Jan 1970 00:01\v", "2\u00a0Jan 1970 00:01", "2;Jan 1970 00:01", "2-Jan-1970 00:01",
		"2", "2 Jan", "2 Jan 1970", "Fri", "Fri 2 Jan 1970", "Jan 2 1970 00:01", "2 1970 Jan 00:01", "2 Jan 00:01 1970", "2 Jan 1970 GMT 00:01", "2 Jan 1970 GMT",
		"Fri Fri 2 Jan 1970 00:01", "2 Fri Jan 1970 00:01", "2 Jan 1970 00:01 Fri", "2 Jan 1970 00:01 z z", "2 Jan 1970 00:01 +0000 GMT", "2 Jan 1970 00:01 +0000 x", "x 2 Jan 1970 00:01")
}

func TestParseNames(t *testing.T) { // P9.2
	for _, name := range strings.Fields("Thu Fri Sat Sun Mon Tue Wed") {
		for _, s := range []string{name, strings.ToLower(name), strings.ToUpper(name)} {
			holdParse(t, s+" 2 Jan 1970 00:00", 86400)
			holdNoParse(t, s[:2]+" 2 Jan 1970 00:00", s+". 2 Jan 1970 00:00", s+"day 2 Jan 1970 00:00")
		}
	}
	for i, name := range strings.Fields("Jan Feb Mar Apr May Jun Jul Aug Sep Oct Nov Dec") {
		want := int(time.Date(2001, time.Month(i+1), 3, 0, 0, 0, 0, time.UTC).Unix())
		for _, s := range []string{name, strings.ToLower(name), strings.ToUpper(name)} {
			holdParse(t, "3 "+s+" 2001 00:00", want)
			holdNoParse(t, "3 "+s[:2]+" 2001 00:00", "3 "+s+". 2001 00:00", "3 "+s+"x 2001 00:00")
		}
	}
	// foreign letters that a library may take for some of these
	holdNoParse(t, "Fr\u0130 2 Jan 1970 00:00", "Fr\u0131 2 Jan 1970 00:00", "\u017fat 2 Jan 1970 00:00", "2 \u017fep 1970 00:00", "2 Jan 1970 00:00 E\u017fT", "2 J\u00e4n 1970 00:00", "2 Jan\xff 1970 00:00",
		"\uff12 Jan 1970 00:00", "2 Jan \u0661\u0669\u0667\u0660 00:00", "2 Jan 197\xb2 00:00", "2 Jan 1970 00:00 \u22120100", "2 Jan 1970 00\uff1a00",
		"2 Xyz 1970 00:00", "2 1 1970 00:00", "2 01 1970 00:00", "2 January 1970 00:00", "Friday 2 Jan 1970 00:00")
}

func TestParseDaysAndYears(t *testing.T) { // P9.2
	for n := range 100 {
		two := strconv.Itoa(n/10) + strconv.Itoa(n%10)
		year := 1900 + n
		if n < 50 {
			year = 2000 + n
		}
		begin := int(time.Date(year, 1, 1, 0, 0, 0, 0, time.UTC).Unix())
		holdParse(t, "1 Jan "+two+" 00:00", begin)
		holdParse(t, "01 Jan "+strconv.Itoa(year)+" 00:00", begin)
		day := "1 Jan 1970 00:00"
		switch {
		case 1 <= n && n <= 31:
			holdParse(t, two+day[1:], (n-1)*86400)
			holdParse(t, strconv.Itoa(n)+day[1:], (n-1)*86400)
		default:
			holdNoParse(t, two+day[1:], strconv.Itoa(n)+day[1:])
		}
	}
	holdParse(t, "29 Feb 00 00:00", 11016*86400)
	holdParse(t, "1 Jan 9999 00:00", 2932532*86400)
	holdNoParse(t, "29 Feb 1900 00:00", "29 Feb 70 00:00", "30 Feb 2000 00:00", "31 Apr 2000 00:00", "32 Jan 2000 00:00", "0 Jan 2000 00:00", "1 Jan 1899 00:00", "1 Jan 0000 00:00", "1 Jan 0070 00:00",
		"001 Jan 1970 00:00", "-1 Jan 1970 00:00", "+1 Jan 1970 00:00", "1. Jan 1970 00:00", "1st Jan 1970 00:00", "x Jan 1970 00:00", "1x Jan 1970 00:00",
		"1 Jan 7 00:00", "1 Jan 197 00:00", "1 Jan 100 00:00", "1 Jan 19700 00:00", "1 Jan 01970 00:00", "1 Jan -1 00:00", "1 Jan +1 00:00", "1 Jan +197 00:00", "1 Jan 19x0 00:00", "1 Jan '70 00:00",
		"1 Jan "+strings.Repeat("9", 30)+" 00:00", strings.Repeat("9", 30)+" Jan 1970 00:00", "1 Jan 18446744073709553586 00:00")
}

func TestParseTimes(t *testing.T) { // P9.2
	for n := range 100 {
		two := strconv.Itoa(n/10) + strconv.Itoa(n%10)
		for _, c := range []struct {
			s            string
			below, units int
		}{
			{two + ":00", 24, 3600}, {two + ":00:00", 24, 3600}, {"00:" + two, 60, 60}, {"00:" + two + ":00", 60, 60}, {"00:00:" + two, 60, 1},
			{"00:00 -" + two + "00", 24, 3600}, {"00:00 +" + two + "00", 24, -3600}, {"00:00 -00" + two, 60, 60}, {"00:00 +00" + two, 60, -60},
		} {
			s := "1 Jan 1970 " + c.s
			if n < c.below {
				holdParse(t, s, n*c.units)
			} else {
				holdNoParse(t, s)
			}
		}
	}
	for _, s := range []string{
		"0:00", "00:0", "00:00:0", "0:00:00", "00:000", "000:00", "00:00:000", "00:00:", ":00:00", "00::00", ":", "::", ":00", "00:", "0000", "000000", "00.00", "00:00.00", "00:00:00:00", "00:00:00.0", "-1:00", "+1:00", "00:-1", "00:+1", "00:00:+1", "0x:00", "00:0x", "00:00:x0", "24:00", "00:60", "00:00:60",
	} {
		holdNoParse(t, "1 Jan 1970 "+s, "1 Jan 1970 "+s+" +0000")
	}
}

func TestParseZones(t *testing.T) { // P9.2
	for name, hours := range map[string]int{"UT": 0, "UTC": 0, "GMT": 0, "Z": 0, "EST": -5, "EDT": -4, "CST": -6, "CDT": -5, "MST": -7, "MDT": -6, "PST": -8, "PDT": -7} {
		for _, s := range []string{name, strings.ToLower(name), name[:1] + strings.ToLower(name[1:])} {
			holdParse(t, "1 Jan 1970 00:00 "+s, -hours*3600)
			holdParse(t, "1 Jan 1970 00:00:01 "+s+" (x)", 1-hours*3600)
			holdNoParse(t, "1 Jan 1970 00:00 "+s+"x", "1 Jan 1970 00:00 +"+s, "1 Jan 1970 00:00 "+s+"+0000")
		}
	}
	holdParse(t, "1 Mar 00 00:00:01 -0030", 951868801+1800)
	holdParse(t, "1 Mar 00 00:00:01 +1234", 951868801-12*3600-34*60)
	for _, s := range []string{
		"XST", "A", "CET", "GM", "BST", "0000", "00000", " 0000x", "+", "-", "+0", "+00", "+000", "+00000", "+100", "+01:00", "+01", "*0100", "++100", "+-100", "+0-10", "+010x", "+x100", "--0100", "+2400", "-2400", "+0060", "-0060", "+9999",
	} {
		holdNoParse(t, "1 Jan 1970 00:00 "+s, "Thu 1 Jan 1970 00:00:00 "+s)
	}
}

var (
	oneToken = regexp.MustCompile(`[^ \t,]+`)
	wholeOne = regexp.MustCompile(`^(?:(?:thu|fri|sat|sun|mon|tue|wed)/)?(\d\d?)/([a-z]{3})/(\d\d|\d{4})/(\d\d):(\d\d)(?::(\d\d))?(?:/([+-])(\d\d)(\d\d)|/([a-z]+))?/$`)
)

// parseByPattern reads as P9.2 says it, by one pattern for all tokens, and by the library's own calendar.
func parseByPattern(s string) (int, api.Errno) {
	all := ""
	for _, token := range oneToken.FindAllString(s, -1) {
		if token[0] == '(' {
			break
		}
		all += strings.ReplaceAll(token, "/", "?") + "/"
	}
	m := wholeOne.FindStringSubmatch(lowered(all))
	if m == nil {
		return 0, api.ErrForm
	}
	month := strings.Index("  jan feb mar apr may jun jul aug sep oct nov dec", " "+m[2]) + 3
	day, year := number(m[1]), number(m[3])
	if len(m[3]) == 2 {
		year += 1900
		if year < 1950 {
			year += 100
		}
	}
	hour, minute, second := number(m[4]), number(m[5]), number(m[6])
	zone, known := map[string]int{"": 0, "ut": 0, "utc": 0, "gmt": 0, "z": 0, "est": -5, "edt": -4, "cst": -6, "cdt": -5, "mst": -7, "mdt": -6, "pst": -8, "pdt": -7}[m[10]]
	zone *= 60
	if m[7] != "" {
		zone = number(m[8])*60 + number(m[9])
	}
	if m[7] == "-" {
		zone = -zone
	}
	when := time.Date(year, time.Month(month/4), day, hour, minute, second, 0, time.UTC)
	same := when.Year() == year && int(when.Month()) == month/4 && when.Day() == day && when.Hour() == hour && when.Minute() == minute && when.Second() == second
	if !same || !known || month < 4 || year < 1900 || number(m[8]) > 23 || number(m[9]) > 59 {
		return 0, api.ErrForm
	}
	return int(when.Unix()) - zone*60, api.OK
}

func number(s string) int {
	n, _ := strconv.Atoi(s)
	return n
}

// lowered has a to z for A to Z alone.
func lowered(s string) string {
	b := []byte(s)
	for i, c := range b {
		if 'A' <= c && c <= 'Z' {
			b[i] = c + 32
		}
	}
	return string(b)
}

func holdByPattern(t *testing.T, s string) {
	t.Helper()
	want, errno := parseByPattern(s)
	if n, e := stamp.Parse(s); n != want || e != errno {
		t.Fatalf("P9.2: Parse(%q) is %d, %d, not %d, %d", s, n, e, want, errno)
	}
}

// mixed puts a date together, mostly as it should be.
func mixed(random *rand.Rand) string {
	pick := func(row ...string) string { return row[random.Intn(len(row))] }
	two := func(below int) string {
		n := random.Intn(below)
		return strconv.Itoa(n/10) + strconv.Itoa(n%10)
	}
	row := []string{
		pick("", "", "Thu", "fri", "SAT", "Sun", "moN", "Tue", "Wed", "Xyz"),
		pick(two(34), strconv.Itoa(random.Intn(34))),
		pick("Jan", "feb", "MAR", "Apr", "mAy", "Jun", "Jul", "Aug", "Sep", "Oct", "Nov", "Dec", "Feb", "feb", "jon"),
		pick(two(100), strconv.Itoa(1890+random.Intn(300)), strconv.Itoa(random.Intn(11000)), "1900", "2000"),
		two(25) + pick(":", ":", ":", ":", ".") + two(62) + pick("", ":"+two(62)),
		pick("", "", pick("+", "-")+two(26)+two(62), pick("UT", "utc", "Gmt", "z", "EST", "edt", "CST", "cdt", "MST", "mdt", "PST", "pdt", "xst")),
		pick("", "", "(x", "x", "(", "\n"),
	}
	if at := random.Intn(80); at < len(row) {
		row[at] = pick("", "(", "x", row[random.Intn(len(row))])
	}
	s := ""
	for _, token := range row {
		s += token + pick(" ", " ", ", ", "\t", ",")
	}
	if at := random.Intn(10 * len(s)); at < len(s) {
		s = s[:at] + pick("", "0", "a", ":", "+", "-", "(", " ", "\xff", "\u017f", "/") + s[at+1:]
	}
	return s
}

func TestParseMixed(t *testing.T) { // P9.2
	random := rand.New(rand.NewSource(92))
	good := 0
	for range 100000 {
		s := mixed(random)
		holdByPattern(t, s)
		if _, e := parseByPattern(s); e == api.OK {
			good++
		}
	}
	if good < 10000 {
		t.Errorf("only %d of these are dates", good)
	}
}

func holdWrite(t *testing.T, n int, want string, errno api.Errno) {
	t.Helper()
	if s, e := stamp.Write(n); s != want || e != errno {
		t.Errorf("P9.3: Write(%d) is %q, %d, not %q, %d", n, s, e, want, errno)
	}
}

func TestWrite(t *testing.T) { // P9.3
	holdWrite(t, 0, "Thu, 01 Jan 1970 00:00:00 +0000", api.OK)
	holdWrite(t, -1, "Wed, 31 Dec 1969 23:59:59 +0000", api.OK)
	holdWrite(t, -86400, "Wed, 31 Dec 1969 00:00:00 +0000", api.OK)
	holdWrite(t, -86401, "Tue, 30 Dec 1969 23:59:59 +0000", api.OK)
	holdWrite(t, 86399, "Thu, 01 Jan 1970 23:59:59 +0000", api.OK)
	holdWrite(t, 86400, "Fri, 02 Jan 1970 00:00:00 +0000", api.OK)
	holdWrite(t, 951868799, "Tue, 29 Feb 2000 23:59:59 +0000", api.OK)
	holdWrite(t, 951868800, "Wed, 01 Mar 2000 00:00:00 +0000", api.OK)
	holdWrite(t, 1234567890, "Fri, 13 Feb 2009 23:31:30 +0000", api.OK)
	holdWrite(t, first, "Mon, 01 Jan 1900 00:00:00 +0000", api.OK)
	holdWrite(t, last, "Fri, 31 Dec 9999 23:59:59 +0000", api.OK)
	for _, n := range []int{first - 1, last + 1, first - 86400, last + 86400, math.MinInt, math.MinInt + 1, math.MaxInt, math.MaxInt - 1} {
		holdWrite(t, n, "", api.ErrArg)
	}
}

func TestWhatIsWrittenIsRead(t *testing.T) { // P9.3, P9.4
	random := rand.New(rand.NewSource(94))
	eachDay(func(day time.Time, number int) {
		// The first and the last days of all months, and some of the others.
		if day.Day() > 1 && day.Day() < 28 && random.Intn(40) > 0 {
			return
		}
		n := number*86400 + []int{0, 86399, random.Intn(86400)}[random.Intn(3)]
		s, e := stamp.Write(n)
		if want := time.Unix(int64(n), 0).UTC().Format(layout); s != want || e != api.OK {
			t.Fatalf("P9.3: Write(%d) is %q, %d, not %q", n, s, e, want)
		}
		if back, e := stamp.Parse(s); back != n || e != api.OK {
			t.Fatalf("P9.4: %d is written %q, and comes back as %d, %d", n, s, back, e)
		}
	})
}

func TestLongTextsEnd(t *testing.T) { // R1
	const size = 1 << 18
	for _, one := range []string{" ", ",", "a", "a ", "1", "1 ", ":", "00:", "(", "( ", "+", "\xff", "\u00e9 "} {
		s := strings.Repeat(one, size)
		stamp.Parse(s)
		stamp.Parse("1 Jan 1970 " + s)
		stamp.Parse("1 Jan 1970 00:00 " + s)
		holdParse(t, "1 Jan 1970 00:00 ("+s, 0)
	}
	blanks := strings.Repeat(" \t,", size)
	holdParse(t, blanks+"1"+blanks+"Jan"+blanks+"1970"+blanks+"00:00"+blanks, 0)
}

package date

import (
	"math"
	"strings"
	"testing"

	"micropart/api"
)

// A day of the calendar, for tests that count days one by one.
type civilDay struct{ y, m, d int }

// The lengths of the months, without the day that a leap year adds to the second one.
var commonLengths = [12]int{31, 28, 31, 30, 31, 30, 31, 31, 30, 31, 30, 31}

// slowLeap reports whether y, which is not negative, is a leap year, by the digits of the year:
// among the years that end with 00 the digits before these count, and otherwise the last two.
func slowLeap(y int) bool {
	for _, start := range []int{y % 100, y / 100} {
		if start == 0 {
			continue
		}
		for start > 0 {
			start -= 4
		}
		return start == 0
	}
	return true
}

func slowLength(y, m int) int {
	if m == 2 && slowLeap(y) {
		return 29
	}
	return commonLengths[m-1]
}

func (c civilDay) next() civilDay {
	switch {
	case c.d < slowLength(c.y, c.m):
		return civilDay{c.y, c.m, c.d + 1}
	case c.m < 12:
		return civilDay{c.y, c.m + 1, 1}
	}
	return civilDay{c.y + 1, 1, 1}
}

func (c civilDay) previous() civilDay {
	switch {
	case c.d > 1:
		return civilDay{c.y, c.m, c.d - 1}
	case c.m > 1:
		return civilDay{c.y, c.m - 1, slowLength(c.y, c.m-1)}
	}
	return civilDay{c.y - 1, 12, 31}
}

// text writes the digits one by one.
func (c civilDay) text() string {
	return string([]byte{
		byte('0' + c.y/1000), byte('0' + c.y/100%10), byte('0' + c.y/10%10), byte('0' + c.y%10), '-',
		byte('0' + c.m/10), byte('0' + c.m%10), '-',
		byte('0' + c.d/10), byte('0' + c.d%10),
	})
}

func checkDays(t *testing.T, y, m, d, want int, wantErr api.Errno) {
	t.Helper()
	if n, e := Days(y, m, d); n != want || e != wantErr {
		t.Errorf("Days(%d, %d, %d) = %d, %d, want %d, %d", y, m, d, n, e, want, wantErr)
	}
}

func checkCivil(t *testing.T, n int, want civilDay, wantErr api.Errno) {
	t.Helper()
	y, m, d, e := Civil(n)
	if (civilDay{y, m, d}) != want || e != wantErr {
		t.Errorf("Civil(%d) = %d, %d, %d, %d, want %v, %d", n, y, m, d, e, want, wantErr)
	}
}

func checkParse(t *testing.T, s string, want int, wantErr api.Errno) {
	t.Helper()
	if n, e := Parse(s); n != want || e != wantErr {
		t.Errorf("Parse(%q) = %d, %d, want %d, %d", s, n, e, want, wantErr)
	}
}

func checkFormat(t *testing.T, n int, want string, wantErr api.Errno) {
	t.Helper()
	if s, e := Format(n); s != want || e != wantErr {
		t.Errorf("Format(%d) = %q, %d, want %q, %d", n, s, e, want, wantErr)
	}
}

// checkAll checks all functions with a day and its number.
func checkAll(t *testing.T, c civilDay, n int) {
	t.Helper()
	checkDays(t, c.y, c.m, c.d, n, api.OK)
	checkCivil(t, n, c, api.OK)
	checkParse(t, c.text(), n, api.OK)
	checkFormat(t, n, c.text(), api.OK)
}

// Promise 4.1.
func TestLeapOfKnownYears(t *testing.T) {
	for _, y := range []int{4, 1584, 1600, 1904, 1972, 1996, 2000, 2004, 2024, 2096, 2400, 9996} {
		if !Leap(y) {
			t.Errorf("Leap(%d) is false", y)
		}
	}
	for _, y := range []int{1, 2, 3, 5, 100, 200, 300, 1500, 1582, 1700, 1800, 1900, 1970, 2001, 2002, 2003, 2023, 2100, 2200, 2300, 9999} {
		if Leap(y) {
			t.Errorf("Leap(%d) is true", y)
		}
	}
}

// Promise 4.1: Leap does not restrict y, and depends on the multiples of 4, 100 and 400 only.
func TestLeapOfAllYears(t *testing.T) {
	for y := range 12000 {
		want := slowLeap(y)
		for _, other := range []int{y, -y, y + 400<<40, y - 400<<40} {
			if got := Leap(other); got != want {
				t.Fatalf("Leap(%d) = %t", other, got)
			}
		}
	}
	for y, want := range map[int]bool{
		0: true, -1: false, -4: true, -100: false, -400: true, 10000: true, 10100: false,
		math.MaxInt: false, math.MaxInt - 3: true, math.MaxInt - 7: false, math.MinInt: true, math.MinInt + 8: false, math.MinInt + 1: false,
	} {
		if got := Leap(y); got != want {
			t.Errorf("Leap(%d) = %t, want %t", y, got, want)
		}
	}
}

// Promises 4.1 and 4.2, and the examples of the chapter.
func TestKnownDays(t *testing.T) {
	for _, q := range []struct {
		c    civilDay
		s    string
		want int
	}{
		{civilDay{1970, 1, 1}, "1970-01-01", 0},
		{civilDay{1970, 1, 2}, "1970-01-02", 1},
		{civilDay{1969, 12, 31}, "1969-12-31", -1},
		{civilDay{1970, 12, 31}, "1970-12-31", 364},
		{civilDay{1971, 1, 1}, "1971-01-01", 365},
		{civilDay{1972, 2, 29}, "1972-02-29", 789},
		{civilDay{2000, 2, 29}, "2000-02-29", 11016},
		{civilDay{2000, 3, 1}, "2000-03-01", 11017},
		{civilDay{2024, 2, 29}, "2024-02-29", 19782},
		{civilDay{2100, 2, 28}, "2100-02-28", 47540},
		{civilDay{2100, 3, 1}, "2100-03-01", 47541},
		{civilDay{1900, 2, 28}, "1900-02-28", -25509},
		{civilDay{1900, 3, 1}, "1900-03-01", -25508},
		{civilDay{1582, 10, 15}, "1582-10-15", -141427},
		{civilDay{1582, 10, 14}, "1582-10-14", -141428},
		{civilDay{1582, 10, 5}, "1582-10-05", -141437},
		{civilDay{1582, 10, 4}, "1582-10-04", -141438},
		{civilDay{1, 1, 1}, "0001-01-01", -719162},
		{civilDay{1, 12, 31}, "0001-12-31", -718798},
		{civilDay{4, 2, 29}, "0004-02-29", -718008},
		{civilDay{999, 12, 31}, "0999-12-31", -354286},
		{civilDay{9999, 1, 1}, "9999-01-01", 2932532},
		{civilDay{9999, 12, 31}, "9999-12-31", 2932896},
	} {
		if q.c.text() != q.s {
			t.Fatalf("the test itself is wrong: %v has the text %q", q.c, q.c.text())
		}
		checkAll(t, q.c, q.want)
	}
}

// agrees reports what checkAll checks, in less time.
func agrees(c civilDay, n int) bool {
	days, errDays := Days(c.y, c.m, c.d)
	y, m, d, errCivil := Civil(n)
	parsed, errParse := Parse(c.text())
	s, errFormat := Format(n)
	return days == n && errDays == api.OK && (civilDay{y, m, d}) == c && errCivil == api.OK &&
		parsed == n && errParse == api.OK && s == c.text() && errFormat == api.OK
}

// Promises 4.1 and 4.2: every day of the calendar, counted from January 1, 1970, in both
// directions.
func TestEveryDay(t *testing.T) {
	epoch := civilDay{1970, 1, 1}
	c := epoch
	for n := 0; n <= api.MaxDate; n++ {
		if !agrees(c, n) {
			checkAll(t, c, n)
			t.FailNow()
		}
		c = c.next()
	}
	if c != (civilDay{10000, 1, 1}) {
		t.Errorf("the day after the last one is %v", c)
	}
	c = epoch
	for n := 0; n >= api.MinDate; n-- {
		if !agrees(c, n) {
			checkAll(t, c, n)
			t.FailNow()
		}
		c = c.previous()
	}
	if c != (civilDay{0, 12, 31}) {
		t.Errorf("the day before the first one is %v", c)
	}
}

// Promise 4.1: a month has no other days than its own, and a year no other months.
func TestDaysRefusesDaysOutOfRange(t *testing.T) {
	for _, y := range []int{1, 4, 100, 400, 1582, 1900, 1970, 2000, 2023, 2024, 9996, 9999} {
		for m := -15; m <= 30; m++ {
			for d := -40; d <= 70; d++ {
				if m >= 1 && m <= 12 && d >= 1 && d <= slowLength(y, m) {
					continue
				}
				checkDays(t, y, m, d, 0, api.ErrRange)
			}
		}
		for _, far := range []int{math.MinInt, math.MinInt + 1, math.MinInt32, math.MaxInt32, 1<<32 + 1, math.MaxInt - 1, math.MaxInt} {
			checkDays(t, y, far, 1, 0, api.ErrRange)
			checkDays(t, y, 1, far, 0, api.ErrRange)
			checkDays(t, y, far, far, 0, api.ErrRange)
		}
	}
}

// Promise 4.1.
func TestDaysRefusesYearsOutOfRange(t *testing.T) {
	for _, y := range []int{0, -1, -4, -400, -1970, -9999, 10000, 10001, 10400, 1<<32 + 1970, math.MinInt, math.MinInt + 1, math.MaxInt - 1, math.MaxInt} {
		for m := 1; m <= 12; m++ {
			for _, d := range []int{1, 15, 28, 29, 31} {
				checkDays(t, y, m, d, 0, api.ErrRange)
			}
		}
		checkDays(t, y, 0, 0, 0, api.ErrRange)
		checkDays(t, y, y, y, 0, api.ErrRange)
	}
}

// Promises 4.1 and 4.2.
func TestCivilAndFormatRefuseNumbersOutOfRange(t *testing.T) {
	for _, n := range []int{
		api.MinDate - 1, api.MinDate - 2, api.MinDate - 366, 2 * api.MinDate, math.MinInt32, math.MinInt, math.MinInt + 1,
		api.MaxDate + 1, api.MaxDate + 2, api.MaxDate + 366, 2 * api.MaxDate, math.MaxInt32, 1 << 32, math.MaxInt - 1, math.MaxInt,
	} {
		checkCivil(t, n, civilDay{}, api.ErrRange)
		checkFormat(t, n, "", api.ErrRange)
	}
}

// Promise 4.2: each byte in each place. What has the form may still not be a day.
func TestParseWithEachByteInEachPlace(t *testing.T) {
	for _, s := range []string{"2024-02-29", "1970-01-01", "9999-12-31", "0001-10-10"} {
		for place := range len(s) {
			for b := range 256 {
				l := []byte(s)
				l[place] = byte(b)
				changed := string(l)
				digit := b >= '0' && b <= '9'
				hyphen := place == 4 || place == 7
				if hyphen && b != '-' || !hyphen && !digit {
					checkParse(t, changed, 0, api.ErrForm)
					continue
				}
				y := int(l[0]-'0')*1000 + int(l[1]-'0')*100 + int(l[2]-'0')*10 + int(l[3]-'0')
				m := int(l[5]-'0')*10 + int(l[6]-'0')
				d := int(l[8]-'0')*10 + int(l[9]-'0')
				want, wantErr := Days(y, m, d)
				checkParse(t, changed, want, wantErr)
			}
		}
	}
}

// Promise 4.2.
func TestParseRefusesOtherForms(t *testing.T) {
	s := "2024-02-29"
	for n := range len(s) {
		checkParse(t, s[:n], 0, api.ErrForm)
		checkParse(t, s[n+1:], 0, api.ErrForm)
		checkParse(t, s[:n]+s[n+1:], 0, api.ErrForm)
	}
	for _, more := range []string{"\x00", " ", "\n", "0", "-", "-01", "T00:00:00Z", strings.Repeat("0", 1000)} {
		checkParse(t, s+more, 0, api.ErrForm)
		checkParse(t, more+s, 0, api.ErrForm)
	}
	for _, other := range []string{
		"2024-2-29", "2024-02-9", "2024-2-9", "24-02-29", "224-02-29", "02024-02-29", "2024-002-29", "2024-02-029",
		"2024/02/29", "2024.02.29", "2024_02_29", "20240229", "2024022900", "2024--0229", "202-402-29", "2024-022-9", "20240-2-29",
		"29-02-2024", "02-29-2024", "----------", "          ", "0000000000", "yyyy-mm-dd", "2024-Feb-9",
		"+024-02-29", "-024-02-29", "2024-+2-29", "2024--2-29", "2024-02-+9", "2024- 2-29", " 024-02-29", "2024-02- 9", "2024-02-9 ",
		"2_24-02-29", "0x24-02-29", "2e24-02-29", "202४-02-", "2024-0２-", "2024‐02‐29", "2024-02-２9", "٢٠٢٤-02-29", "2024-02-²",
	} {
		checkParse(t, other, 0, api.ErrForm)
	}
}

// Promise 4.2.
func TestParseRefusesDaysOutOfRange(t *testing.T) {
	for _, s := range []string{
		"0000-01-01", "0000-02-29", "0000-12-31", "0000-00-00",
		"2024-00-01", "2024-13-01", "2024-99-01", "2024-01-00", "2024-01-32", "2024-01-99",
		"2023-02-29", "1900-02-29", "2100-02-29", "2024-02-30", "2000-02-30", "2024-04-31", "2024-06-31", "2024-09-31", "2024-11-31", "9999-12-32", "9999-99-99",
	} {
		checkParse(t, s, 0, api.ErrRange)
	}
}

// Promise 4.2: the form comes first.
func TestParseReportsTheFormFirst(t *testing.T) {
	for _, s := range []string{"0000-01-0x", "0000-01-1", "2023-13-01x", "2023-02-29 ", "2023_02-29", "x999-99-99", "0000-00-00Z"} {
		checkParse(t, s, 0, api.ErrForm)
	}
}

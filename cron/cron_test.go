package cron

import (
	"math"
	"regexp"
	"strconv"
	"strings"
	"testing"
	"time"

	"foliot/api"
)

var epoch = time.Date(2000, 1, 1, 0, 0, 0, 0, time.UTC)

// calendar: the date of a minute, as the library's calendar has it.
func calendar(t int64) Date {
	x := epoch.AddDate(0, 0, int(t/1440)).Add(time.Duration(t%1440) * time.Minute)
	return Date{x.Year(), int(x.Month()), x.Day(), x.Hour(), x.Minute(), int(x.Weekday())}
}

// minuteOf: the minute of a date.
func minuteOf(year, month, day, hour, min int) int64 {
	days := time.Date(year, time.Month(month), day, 0, 0, 0, 0, time.UTC).Unix() - epoch.Unix()
	return days/60 + int64(hour)*60 + int64(min)
}

func mustParse(t *testing.T, s string) *Spec {
	t.Helper()
	c, e := Parse(s)
	if e != api.OK || c == nil {
		t.Fatalf("Parse(%q): %v", s, e)
	}
	return c
}

var ends = [5][2]int{{0, 59}, {0, 23}, {1, 31}, {1, 12}, {0, 6}}

var (
	partForm   = regexp.MustCompile(`^(\*|([^-]*)-(.*)|(.*))$`)
	numberForm = regexp.MustCompile(`^([0-9]|[1-9][0-9])$`)
)

func readNumber(s string) (int, bool) {
	n, _ := strconv.Atoi(s)
	return n, numberForm.MatchString(s)
}

// partAsTold: the numbers of a part, as the document's words have it.
func partAsTold(s string, least, most int) (map[int]bool, api.Errno) {
	step, body := 1, s
	at := strings.Index(s, "/")
	if at >= 0 {
		n, ok := readNumber(s[at+1:])
		if !ok {
			return nil, api.ErrForm
		}
		if n == 0 {
			return nil, api.ErrRange
		}
		step, body = n, s[:at]
	}
	first, last := least, most
	if body != "*" {
		m := partForm.FindStringSubmatch(body)
		var ok, ok2 bool
		if strings.Contains(body, "-") {
			first, ok = readNumber(m[2])
			last, ok2 = readNumber(m[3])
			ok = ok && ok2
		} else if first, ok = readNumber(body); ok && at < 0 {
			last = first
		}
		if !ok {
			return nil, api.ErrForm
		}
		if first < least || last < least || first > most || last > most || first > last {
			return nil, api.ErrRange
		}
	}
	numbers := map[int]bool{}
	for n := least; n <= most; n++ {
		if n >= first && n <= last && (n-first)%step == 0 {
			numbers[n] = true
		}
	}
	return numbers, api.OK
}

// asTold: the numbers of a text's fields, as the document's words have it.
func asTold(s string) ([5]map[int]bool, api.Errno) {
	var fields [5]map[int]bool
	if len(s) > 128 {
		return fields, api.ErrLong
	}
	if strings.Count(s, " ") != 4 {
		return fields, api.ErrField
	}
	for i, f := range strings.Split(s, " ") {
		fields[i] = map[int]bool{}
		for _, part := range strings.Split(f, ",") {
			numbers, e := partAsTold(part, ends[i][0], ends[i][1])
			if e != api.OK {
				return fields, e
			}
			for n := range numbers {
				fields[i][n] = true
			}
		}
	}
	return fields, api.OK
}

// fitsAsTold: does a date fit, as the document's words have it?
func fitsAsTold(s string, fields [5]map[int]bool, d Date) bool {
	f := strings.Split(s, " ")
	day := fields[2][d.Day] || fields[4][d.Week]
	if f[2] == "*" || f[4] == "*" {
		day = fields[2][d.Day] && fields[4][d.Week]
	}
	return fields[0][d.Minute] && fields[1][d.Hour] && fields[3][d.Month] && day
}

// numbersOf: what numbers a field has, asked by Fits; the others are stars, but the minute, which is one number.
func numbersOf(t *testing.T, field int, s string) []int {
	t.Helper()
	texts := []string{"*", "*", "*", "*", "*"}
	texts[field] = s
	c := mustParse(t, strings.Join(texts, " "))
	var got []int
	for n := -70; n < 140; n++ {
		d := [5]int{0, 0, 1, 1, 0}
		d[field] = n
		if c.Fits(Date{Year: 2000, Minute: d[0], Hour: d[1], Day: d[2], Month: d[3], Week: d[4]}) {
			got = append(got, n)
		}
	}
	return got
}

// P4.1: a part's numbers.
func TestNumbers(t *testing.T) {
	for _, x := range []struct {
		field   int
		s, want string
	}{
		{1, "*", "0 1 2 3 4 5 6 7 8 9 10 11 12 13 14 15 16 17 18 19 20 21 22 23"},
		{3, "*", "1 2 3 4 5 6 7 8 9 10 11 12"},
		{4, "*", "0 1 2 3 4 5 6"},
		{0, "0", "0"},
		{0, "59", "59"},
		{0, "7", "7"},
		{0, "5/15", "5 20 35 50"},
		{0, "*/15", "0 15 30 45"},
		{0, "*/99", "0"},
		{0, "58/1", "58 59"},
		{0, "59/99", "59"},
		{0, "0/60", "0"},
		{0, "0/59", "0 59"},
		{0, "10-20/5", "10 15 20"},
		{0, "10-19/5", "10 15"},
		{0, "10-19/10", "10"},
		{0, "3-3", "3"},
		{0, "3-3/2", "3"},
		{1, "22-23", "22 23"},
		{1, "20/2", "20 22"},
		{2, "*/10", "1 11 21 31"},
		{2, "31", "31"},
		{2, "1-31/30", "1 31"},
		{3, "*/5", "1 6 11"},
		{3, "12/1", "12"},
		{4, "5-6", "5 6"},
		{4, "6", "6"},
		{4, "1/2", "1 3 5"},
		{0, "1,2,3", "1 2 3"},
		{0, "3,1,3,2-4", "1 2 3 4"},
		{0, "*/30,5-7/2,59", "0 5 7 30 59"},
		{3, "12,1,1-2", "1 2 12"},
	} {
		var want []int
		for _, w := range strings.Fields(x.want) {
			n, _ := strconv.Atoi(w)
			want = append(want, n)
		}
		got := numbersOf(t, x.field, x.s)
		if len(got) != len(want) {
			t.Errorf("the field %d of %q has %v, want %v", x.field, x.s, got, want)
			continue
		}
		for i := range want {
			if got[i] != want[i] {
				t.Errorf("the field %d of %q has %v, want %v", x.field, x.s, got, want)
			}
		}
	}
	if n := len(numbersOf(t, 0, "*")); n != 60 {
		t.Errorf("the minute's star has %d numbers", n)
	}
	if n := len(numbersOf(t, 2, "*")); n != 31 {
		t.Errorf("the day's star has %d numbers", n)
	}
}

// P4.2: what is no text of five fields, and which error is first.
func TestParseErrors(t *testing.T) {
	for s, want := range map[string]api.Errno{
		"": api.ErrField, "*": api.ErrField, "* * * *": api.ErrField, "* * * * * *": api.ErrField, "* *  * * *": api.ErrField, " * * * * *": api.ErrField, "* * * * * ": api.ErrField, "     ": api.ErrField, "*\t*\t*\t*\t*": api.ErrField, "x": api.ErrField, "60 * * *": api.ErrField, "*/0 * * * * *": api.ErrField,
		"    ": api.ErrForm, "* * * * ": api.ErrForm, " * * * *": api.ErrForm, "* *  * *": api.ErrForm,
		"x * * * *": api.ErrForm, "** * * * *": api.ErrForm, "*-5 * * * *": api.ErrForm, "5-* * * * *": api.ErrForm, "- * * * *": api.ErrForm, "5- * * * *": api.ErrForm, "-5 * * * *": api.ErrForm, "1-2-3 * * * *": api.ErrForm, "+5 * * * *": api.ErrForm, "005 * * * *": api.ErrForm, "05 * * * *": api.ErrForm, "00 * * * *": api.ErrForm, "100 * * * *": api.ErrForm, "1.5 * * * *": api.ErrForm, "* * * jan *": api.ErrForm, "* * * * sun": api.ErrForm, "\t5 * * * *": api.ErrForm, "5\n * * * *": api.ErrForm, "* * * * *\n": api.ErrForm, "\xff * * * *": api.ErrForm, "٣ * * * *": api.ErrForm, "1\x00 * * * *": api.ErrForm,
		", * * * *": api.ErrForm, "1, * * * *": api.ErrForm, ",1 * * * *": api.ErrForm, "1,,2 * * * *": api.ErrForm, "1;2 * * * *": api.ErrForm,
		"*/ * * * *": api.ErrForm, "/ * * * *": api.ErrForm, "/5 * * * *": api.ErrForm, "*/x * * * *": api.ErrForm, "*/-1 * * * *": api.ErrForm, "*/100 * * * *": api.ErrForm, "*/05 * * * *": api.ErrForm, "*/00 * * * *": api.ErrForm, "*/2/3 * * * *": api.ErrForm, "*/2/0 * * * *": api.ErrForm, "*/0/2 * * * *": api.ErrForm, "*/* * * * *": api.ErrForm, "*/1-2 * * * *": api.ErrForm,
		"*/0 * * * *": api.ErrRange, "60 * * * *": api.ErrRange, "99 * * * *": api.ErrRange, "* 24 * * *": api.ErrRange, "* * 0 * *": api.ErrRange, "* * 32 * *": api.ErrRange, "* * * 0 *": api.ErrRange, "* * * 13 *": api.ErrRange, "* * * * 7": api.ErrRange,
		"0-60 * * * *": api.ErrRange, "60-61 * * * *": api.ErrRange, "5-4 * * * *": api.ErrRange, "60-5 * * * *": api.ErrRange, "* * 0-5 * *": api.ErrRange, "* * 0/5 * *": api.ErrRange, "* * * 13/2 *": api.ErrRange, "60/2 * * * *": api.ErrRange, "99/99 * * * *": api.ErrRange, "* * * 0-0 *": api.ErrRange, "5-4/2 * * * *": api.ErrRange,

		"x/0 * * * *": api.ErrRange, "60/x * * * *": api.ErrForm, "60/0 * * * *": api.ErrRange, "x/x * * * *": api.ErrForm, "/0 * * * *": api.ErrRange, "5-4/x * * * *": api.ErrForm,
		"60,x * * * *": api.ErrRange, "x,60 * * * *": api.ErrForm, "*/0,x * * * *": api.ErrRange, "x,*/0 * * * *": api.ErrForm, "60-x * * * *": api.ErrForm,
		"60 x * * *": api.ErrRange, "x 60 * * *": api.ErrForm, "* * * 0 x": api.ErrRange, "* * * x 9": api.ErrForm, "1,2,60 x/x * * *": api.ErrRange,
		strings.Repeat("x", 129): api.ErrLong, strings.Repeat(" ", 129): api.ErrLong, strings.Repeat("0,", 60) + "0 * * * *": api.ErrLong, strings.Repeat("x", 128): api.ErrField,
	} {
		if c, e := Parse(s); c != nil || e != want {
			t.Errorf("Parse(%q): %v, %v, want %v", s, c, e, want)
		}
	}
}

// P4.2.
func TestText(t *testing.T) {
	longest := strings.Repeat("0,", 59) + "10 * * * *"
	if len(longest) != 128 {
		t.Fatalf("the longest text has %d bytes", len(longest))
	}
	for _, s := range []string{"* * * * *", "30 2 * * *", "0,0,0 1-2/3 31 12/1 */6", "*,* */1 1-31 * 0-6", longest} {
		if c := mustParse(t, s); c.Text() != s {
			t.Errorf("Text of %q is %q", s, c.Text())
		}
	}
}

// P4.1, P4.2, P4.4: of all short fields each is read, and fits, as the document's words have it.
func TestFieldAll(t *testing.T) {
	alphabet := "*/-,037x"
	good := 0
	var try func(f string)
	try = func(f string) {
		for i := range 5 {
			texts := []string{"*", "*", "*", "*", "*"}
			texts[i] = f
			s := strings.Join(texts, " ")
			fields, want := asTold(s)
			c, e := Parse(s)
			if e != want || (c == nil) != (e != api.OK) {
				t.Fatalf("Parse(%q): %v, want %v", s, e, want)
			}
			if e != api.OK {
				continue
			}
			good++
			for n := ends[i][0]; n <= ends[i][1]; n++ {
				d := [5]int{0, 0, 1, 1, 0}
				d[i] = n
				date := Date{2000, d[3], d[2], d[1], d[0], d[4]}
				if got := c.Fits(date); got != fitsAsTold(s, fields, date) {
					t.Fatalf("%q fits %+v: %v", s, date, got)
				}
			}
		}
		if len(f) < 5 {
			for _, x := range alphabet {
				try(f + string(x))
			}
		}
	}
	try("")
	if good < 900 {
		t.Errorf("%d were read", good)
	}
}

// P4.3: the ends, and the calendar's odd days.
func TestDateOfKnown(t *testing.T) {
	for _, x := range []struct {
		t    int64
		want Date
		err  api.Errno
	}{
		{0, Date{2000, 1, 1, 0, 0, 6}, api.OK},
		{1, Date{2000, 1, 1, 0, 1, 6}, api.OK},
		{59, Date{2000, 1, 1, 0, 59, 6}, api.OK},
		{60, Date{2000, 1, 1, 1, 0, 6}, api.OK},
		{1439, Date{2000, 1, 1, 23, 59, 6}, api.OK},
		{1440, Date{2000, 1, 2, 0, 0, 0}, api.OK},
		{59 * 1440, Date{2000, 2, 29, 0, 0, 2}, api.OK},
		{60 * 1440, Date{2000, 3, 1, 0, 0, 3}, api.OK},
		{366*1440 - 1, Date{2000, 12, 31, 23, 59, 0}, api.OK},
		{366 * 1440, Date{2001, 1, 1, 0, 0, 1}, api.OK},
		{minuteOf(2001, 2, 28, 23, 59) + 1, Date{2001, 3, 1, 0, 0, 4}, api.OK},
		{minuteOf(2004, 2, 29, 12, 30), Date{2004, 2, 29, 12, 30, 0}, api.OK},
		{minuteOf(2100, 2, 28, 0, 0) + 1440, Date{2100, 3, 1, 0, 0, 1}, api.OK},
		{minuteOf(2400, 2, 28, 0, 0) + 1440, Date{2400, 2, 29, 0, 0, 2}, api.OK},
		{146097 * 1440, Date{2400, 1, 1, 0, 0, 6}, api.OK},
		{146097*1440 - 1, Date{2399, 12, 31, 23, 59, 5}, api.OK},
		{MaxTime, calendar(MaxTime), api.OK},
		{-1, Date{}, api.ErrRange},
		{MaxTime + 1, Date{}, api.ErrRange},
		{math.MinInt64, Date{}, api.ErrRange},
		{math.MaxInt64, Date{}, api.ErrRange},
	} {
		if d, e := DateOf(x.t); d != x.want || e != x.err {
			t.Errorf("DateOf(%d) = %+v, %v, want %+v, %v", x.t, d, e, x.want, x.err)
		}
	}
}

// P4.3: each day there is, at one minute or another, as the library's calendar has it.
func TestDateOf(t *testing.T) {
	for m := int64(0); m <= MaxTime; m += 1440 + m%7 {
		if d, e := DateOf(m); d != calendar(m) || e != api.OK {
			t.Fatalf("DateOf(%d) = %+v, %v, want %+v", m, d, e, calendar(m))
		}
	}
	for m := minuteOf(2000, 2, 28, 0, 0); m < minuteOf(2000, 3, 2, 0, 0); m++ {
		if d, _ := DateOf(m); d != calendar(m) {
			t.Fatalf("DateOf(%d) = %+v, want %+v", m, d, calendar(m))
		}
	}
}

// P4.4: when one of both days is enough.
func TestFitsDay(t *testing.T) {
	first, sunday, both, neither := Date{2000, 3, 1, 0, 0, 3}, Date{2000, 3, 5, 0, 0, 0}, Date{2000, 10, 1, 0, 0, 0}, Date{2000, 3, 2, 0, 0, 4}
	for _, x := range []struct {
		s                            string
		first, sunday, both, neither bool
	}{
		{"* * * * *", true, true, true, true},
		{"* * 1 * *", true, false, true, false},
		{"* * * * 0", false, true, true, false},
		{"* * 1 * 0", true, true, true, false},
		{"* * 1-31 * 0", true, true, true, true},
		{"* * */1 * 0", true, true, true, true},
		{"* * *,* * 0", true, true, true, true},
		{"* * *,1 * 0", true, true, true, true},
		{"* * 1 * 0-6", true, true, true, true},
		{"* * 1 * */1", true, true, true, true},
		{"* * */2 * *", true, true, true, false},
		{"* * 3 * 5", false, false, false, false},
		{"* * 1 3 0", true, true, false, false},
		{"0 0 1 * 0", true, true, true, false},
		{"1 * 1 * 0", false, false, false, false},
		{"* 1 1 * 0", false, false, false, false},
	} {
		c := mustParse(t, x.s)
		if c.Fits(first) != x.first || c.Fits(sunday) != x.sunday || c.Fits(both) != x.both || c.Fits(neither) != x.neither {
			t.Errorf("%q fits %v, %v, %v, %v", x.s, c.Fits(first), c.Fits(sunday), c.Fits(both), c.Fits(neither))
		}
	}
}

// specs is texts whose times are few or many, near or far.
func specs() []string {
	return []string{
		"* * * * *", "30 2 * * *", "0 0 * * *", "59 23 * * *", "*/7 * * * *", "5,50 */6 * * *", "0 0 1 * *", "59 23 31 12 *", "0 0 1 1 *", "0 0 29 2 *", "0 0 31 * *", "0 12 30 2 *", "0 0 31 4,6,9,11 *",
		"0 0 * * 6", "15 10 13 * 5", "0 0 29 2 0", "0 0 30 2 1", "0 0 */2 * 1", "1-2 3-4 5-6 7-8 *", "0 0 * 2 *", "59 23 28,29 2 *", "* * 31 2 *", "17 4 1-7 * *", "0 0 1-31 * 3",
	}
}

// times is minutes about the ends of days, months, years, and of what may be asked.
func times() []int64 {
	list := []int64{-1, 0, 1, MaxTime - Horizon - 1, MaxTime - Horizon - 2, MaxTime - Horizon - 500000}
	for _, y := range []int{2000, 2001, 2003, 2004, 2096, 2100, 2399, 2400, 2403, 9999} {
		for _, m := range []int{1, 2, 3, 12} {
			list = append(list, minuteOf(y, m, 1, 0, 0)-1, minuteOf(y, m, 1, 0, 0))
		}
		list = append(list, minuteOf(y, 2, 28, 23, 59), minuteOf(y, 7, 14, 13, 37), minuteOf(y, 12, 31, 23, 58))
	}
	return list
}

// firstAsTold: the first minute above m whose date fits, asked one by one; false, if none within the Horizon does.
func firstAsTold(s string, fields [5]map[int]bool, m int64) (int64, bool) {
	var dayFits bool
	for x := m + 1; x <= m+Horizon; x++ {
		if x == m+1 || x%1440 == 0 {
			d := calendar(x)
			for n := range fields[0] {
				d.Minute = n
			}
			for n := range fields[1] {
				d.Hour = n
			}
			dayFits = fitsAsTold(s, fields, d)
		}
		if dayFits && fields[1][int(x%1440/60)] && fields[0][int(x%60)] {
			return x, true
		}
	}
	return 0, false
}

// P4.5: the first minute behind another one.
func TestNext(t *testing.T) {
	for _, s := range specs() {
		c := mustParse(t, s)
		fields, _ := asTold(s)
		for _, m := range times() {
			got, e := c.Next(m)
			want, ok := firstAsTold(s, fields, m)
			if got != want || ok != (e == api.OK) || !ok && e != api.ErrNever {
				t.Errorf("Next(%d) of %q = %d, %v, want %d, %v", m, s, got, e, want, ok)
			}
			if ok && !c.Fits(calendar(got)) {
				t.Errorf("Next(%d) of %q = %d doesn't fit", m, s, got)
			}
		}
	}
}

// P4.5: known times, and how far they are looked for.
func TestNextKnown(t *testing.T) {
	leap := minuteOf(2000, 2, 29, 0, 0)
	for _, x := range []struct {
		s    string
		t    int64
		want int64
		err  api.Errno
	}{
		{"30 2 * * *", 0, 150, api.OK},
		{"30 2 * * *", 150, 1590, api.OK},
		{"30 2 * * *", 149, 150, api.OK},
		{"* * * * *", -1, 0, api.OK},
		{"* * * * *", 0, 1, api.OK},
		{"0 0 * * *", -1, 0, api.OK},
		{"0 0 * * *", 0, 1440, api.OK},
		{"0 0 1 1 *", 0, 366 * 1440, api.OK},
		{"59 23 31 12 *", 366*1440 - 1, 366*1440 - 1 + 365*1440, api.OK},
		{"0 0 29 2 *", -1, leap, api.OK},
		{"0 0 29 2 *", leap, 0, api.ErrNever},
		{"0 0 29 2 *", minuteOf(2004, 2, 29, 0, 0) - Horizon, minuteOf(2004, 2, 29, 0, 0), api.OK},
		{"0 0 29 2 *", minuteOf(2004, 2, 29, 0, 0) - Horizon - 1, 0, api.ErrNever},
		{"0 0 30 2 *", 5, 0, api.ErrNever},
		{"0 0 30 2 1", -1, minuteOf(2000, 2, 7, 0, 0), api.OK},
		{"* * * * *", -2, 0, api.ErrRange},
		{"* * * * *", math.MinInt64, 0, api.ErrRange},
		{"* * * * *", math.MaxInt64, 0, api.ErrRange},
		{"* * * * *", MaxTime, 0, api.ErrRange},
		{"* * * * *", MaxTime - Horizon, 0, api.ErrRange},
		{"0 0 30 2 *", MaxTime - Horizon, 0, api.ErrRange},
		{"* * * * *", MaxTime - Horizon - 1, MaxTime - Horizon, api.OK},
		{"0 0 30 2 *", MaxTime - Horizon - 1, 0, api.ErrNever},
	} {
		c := mustParse(t, x.s)
		for range 2 { // P2: it answers the same again
			if got, e := c.Next(x.t); got != x.want || e != x.err {
				t.Errorf("Next(%d) of %q = %d, %v, want %d, %v", x.t, x.s, got, e, x.want, x.err)
			}
		}
	}
}

// P1: Fits takes each date, and Parse each text.
func TestAnyArguments(t *testing.T) {
	odd := []int{math.MinInt, -64, -1, 0, 63, 64, 1 << 40, math.MaxInt}
	for _, s := range specs() {
		c := mustParse(t, s)
		for _, n := range odd {
			c.Fits(Date{n, n, n, n, n, n})
			c.Fits(Date{2000, n, 1, 0, n, 6})
		}
	}
	for i := range 256 {
		for j := range 5 {
			texts := []string{"1", "1", "1", "1", "1"}
			texts[j] = string([]byte{byte(i)})
			s := strings.Join(texts, " ")
			_, want := asTold(s)
			if _, e := Parse(s); e != want {
				t.Errorf("Parse(%q): %v, want %v", s, e, want)
			}
		}
	}
}

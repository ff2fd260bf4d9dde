package date_test

import (
	"math"
	"math/rand"
	"regexp"
	"strconv"
	"strings"
	"testing"
	"time"

	"rubric/api"
	"rubric/date"
)

// at is the moment of a text that must be one.
func at(t *testing.T, kind int, s string) date.Moment {
	t.Helper()
	m, err := date.Parse(kind, s)
	if err != api.OK {
		t.Fatalf("Parse(%d, %q): %v", kind, s, err)
	}
	return m
}

// The library counts years with a 0 among them; the year ahead of 1 is 0 there.
func there(year int) int {
	if year < 0 {
		return year + 1
	}
	return year
}

func back(year int) int {
	if year <= 0 {
		return year - 1
	}
	return year
}

// The texts of each kind, as regular expressions: by the chapter, but for what
// hangs on more than one field.
const (
	yearText  = `(-?(?:[1-9][0-9]{4,8}|[0-9]{4}))`
	monthText = `(0[1-9]|1[0-2])`
	dayText   = `(0[1-9]|[12][0-9]|3[01])`
	clockText = `([01][0-9]|2[0-4]):([0-5][0-9]):([0-5][0-9])(?:\.([0-9]{1,9}))?`
	zoneText  = `(Z|[+-](?:0[0-9]|1[0-3]):[0-5][0-9]|[+-]14:00)?`
)

// form is a kind's grammar, and which of its groups tell what: 0, if none does.
type form struct {
	text                                   *regexp.Regexp
	year, month, day, hour, fraction, zone int
}

func forms() map[int]form {
	row := func(parts ...string) *regexp.Regexp {
		return regexp.MustCompile(`^` + strings.Join(parts, "") + `$`)
	}
	return map[int]form{
		date.DateTime:  {text: row(yearText, "-", monthText, "-", dayText, "T", clockText, zoneText), year: 1, month: 2, day: 3, hour: 4, fraction: 7, zone: 8},
		date.Date:      {text: row(yearText, "-", monthText, "-", dayText, zoneText), year: 1, month: 2, day: 3, zone: 4},
		date.Time:      {text: row(clockText, zoneText), hour: 1, fraction: 4, zone: 5},
		date.YearMonth: {text: row(yearText, "-", monthText, zoneText), year: 1, month: 2, zone: 3},
		date.Year:      {text: row(yearText, zoneText), year: 1, zone: 2},
		date.MonthDay:  {text: row("--", monthText, "-", dayText, zoneText), month: 1, day: 2, zone: 3},
		date.Day:       {text: row("---", dayText, zoneText), day: 1, zone: 2},
		date.Month:     {text: row("--", monthText, zoneText), month: 1, zone: 2},
	}
}

// told is what Parse has to answer, said by a grammar and the library's times.
func told(f form, kind int, s string) (date.Moment, bool) {
	l := f.text.FindStringSubmatch(s)
	if l == nil {
		return date.Moment{}, false
	}
	num := func(group, other int) int {
		if group == 0 {
			return other
		}
		n, _ := strconv.Atoi(l[group])
		return n
	}
	m := date.Moment{Kind: kind, Year: num(f.year, 2000), Month: num(f.month, 1), Day: num(f.day, 1)}
	day := time.Date(there(m.Year), time.Month(m.Month), m.Day, 0, 0, 0, 0, time.UTC)
	if m.Year == 0 || day.Day() != m.Day {
		return date.Moment{}, false
	}
	if f.hour > 0 {
		m.Sec = 3600*num(f.hour, 0) + 60*num(f.hour+1, 0) + num(f.hour+2, 0)
		m.Nano, _ = strconv.Atoi((l[f.fraction] + "000000000")[:9])
	}
	if m.Sec > 86400 || m.Sec == 86400 && m.Nano > 0 {
		return date.Moment{}, false
	}
	if m.Sec == 86400 {
		m.Sec = 0
		if kind != date.Time {
			next := day.AddDate(0, 0, 1)
			m.Year, m.Month, m.Day = back(next.Year()), int(next.Month()), next.Day()
		}
	}
	m.HasZone = l[f.zone] != ""
	if len(l[f.zone]) == 6 {
		hour, _ := strconv.Atoi(l[f.zone][1:3])
		minute, _ := strconv.Atoi(l[f.zone][4:])
		m.Zone = 60*hour + minute
		if l[f.zone][0] == '-' {
			m.Zone = -m.Zone
		}
	}
	return m, true
}

// check holds Parse of one text by one kind, and tells whether it is one.
func check(t *testing.T, f form, kind int, s string) bool {
	t.Helper()
	m, err := date.Parse(kind, s)
	want, ok := told(f, kind, s)
	if ok != (err == api.OK) || !ok && err != api.ErrForm || m != want {
		t.Fatalf("Parse(%d, %q): %+v, %v; want %+v, %v", kind, s, m, err, want, ok)
	}
	return ok
}

// seeds are texts of all kinds, with each field near its bounds.
var seeds = []string{
	"2000-02-29T23:59:59.123456789+14:00", "-0001-12-31T24:00:00.000Z", "0001-01-01T00:00:00-13:59",
	"999999999-12-31T24:00:00", "-10000-10-30T19:09:05.5", "1900-02-28T24:00:00.0",
	"2004-02-29", "-0004-02-28Z", "12345-06-30+00:00", "1999-11-30-00:00", "2023-02-28",
	"00:00:00", "24:00:00", "24:00:00.000000000+10:30", "23:59:59.999999999Z", "12:34:56.7-05:09",
	"2000-01", "-9999-12Z", "123456789-10-14:00", "2000", "-0001", "0099Z", "100000+01:00", "2000-05:00",
	"--02-29", "--12-31Z", "--04-30-14:00", "---01", "---31Z", "---30+13:59", "--01", "--12Z", "--10-10:10",
}

// TestP601NearTexts: each seed with each of its bytes taken away, turned and
// doubled, is by each kind what the grammar says.
func TestP601NearTexts(t *testing.T) {
	count := map[int]int{}
	for kind, f := range forms() {
		try := func(s string) {
			if check(t, f, kind, s) {
				count[kind]++
			}
		}
		for _, s := range seeds {
			try(s)
			for i := range len(s) + 1 {
				for _, c := range "0123459-+:.TZ z" {
					try(s[:i] + string(c) + s[i:])
					if i < len(s) {
						try(s[:i] + string(c) + s[i+1:])
					}
				}
				if i < len(s) {
					try(s[:i] + s[i+1:])
					try(s[:i])
					try(s[i:])
				}
			}
		}
	}
	for kind := date.DateTime; kind <= date.Month; kind++ {
		if count[kind] < 50 {
			t.Errorf("only %d texts are of kind %d", count[kind], kind)
		}
	}
}

// TestP601EachTwo: each field of two digits takes just those that it may be.
func TestP601EachTwo(t *testing.T) {
	all := forms()
	for n := range 100 {
		two := string([]byte{byte('0' + n/10), byte('0' + n%10)})
		for _, c := range []struct {
			kind        int
			ahead, tail string
			least, most int
		}{
			{date.DateTime, "2001-", "-01T00:00:00", 1, 12}, {date.Date, "2001-", "-01", 1, 12}, {date.YearMonth, "2001-", "", 1, 12}, {date.MonthDay, "--", "-01", 1, 12}, {date.Month, "--", "", 1, 12},
			{date.DateTime, "2001-01-", "T00:00:00", 1, 31}, {date.Date, "2001-04-", "", 1, 30}, {date.Date, "2001-02-", "", 1, 28}, {date.Date, "2004-02-", "", 1, 29}, {date.Date, "-0001-02-", "", 1, 29}, {date.Date, "-0004-02-", "", 1, 28},
			{date.MonthDay, "--02-", "", 1, 29}, {date.MonthDay, "--11-", "", 1, 30}, {date.MonthDay, "--12-", "Z", 1, 31}, {date.Day, "---", "", 1, 31},
			{date.DateTime, "2001-01-01T", ":00:00", 0, 24}, {date.Time, "", ":00:00", 0, 24}, {date.Time, "", ":00:01", 0, 23}, {date.Time, "", ":01:00", 0, 23}, {date.Time, "", ":00:00.000000001", 0, 23}, {date.DateTime, "2001-01-01T", ":00:00.1", 0, 23},
			{date.Time, "23:", ":00", 0, 59}, {date.Time, "23:59:", "", 0, 59}, {date.Time, "24:", ":00", 0, 0}, {date.Time, "24:00:", "", 0, 0},
			{date.Time, "00:00:00+", ":00", 0, 14}, {date.Time, "00:00:00-", ":00", 0, 14}, {date.Time, "00:00:00+", ":01", 0, 13}, {date.Time, "00:00:00-", ":59", 0, 13}, {date.Year, "2000+13:", "", 0, 59}, {date.Year, "2000-13:", "", 0, 59}, {date.Day, "---01+14:", "", 0, 0}, {date.Day, "---01-14:", "", 0, 0},
		} {
			s := c.ahead + two + c.tail
			if got := check(t, all[c.kind], c.kind, s); got != (n >= c.least && n <= c.most) {
				t.Errorf("Parse(%d, %q): %v", c.kind, s, got)
			}
		}
	}
}

// TestP601Years: how many digits a year has, and what stands ahead of it.
func TestP601Years(t *testing.T) {
	for s, want := range map[string]int{
		"0001": 1, "0010": 10, "0999": 999, "1000": 1000, "9999": 9999, "10000": 10000, "123456789": 123456789, "999999999": 999999999,
		"-0001": -1, "-0004": -4, "-9999": -9999, "-10000": -10000, "-999999999": -999999999,
	} {
		for kind, tail := range map[int]string{date.DateTime: "-01-01T00:00:00", date.Date: "-01-01", date.YearMonth: "-01", date.Year: ""} {
			for _, zone := range []string{"", "Z", "+01:00", "-01:00"} {
				if m := at(t, kind, s+tail+zone); m.Year != want || m.Month != 1 || m.Day != 1 {
					t.Errorf("%q: %+v", s+tail+zone, m)
				}
			}
		}
	}
	for _, s := range []string{
		"", "-", "0", "1", "999", "-999", "0000", "-0000", "00000", "00001", "02000", "-02000", "012345678", "1000000000", "0000000001", "1234567890", "-1234567890", "--2000", "+2000", " 2000", "2000 ", "20x0", "2000.0", "2e03",
	} {
		for kind, tail := range map[int]string{date.DateTime: "-01-01T00:00:00", date.Date: "-01-01", date.YearMonth: "-01", date.Year: ""} {
			if m, err := date.Parse(kind, s+tail); err != api.ErrForm || m != (date.Moment{}) {
				t.Errorf("Parse(%d, %q): %+v, %v", kind, s+tail, m, err)
			}
		}
	}
}

func TestP602ParseTable(t *testing.T) {
	for s, want := range map[string]date.Moment{
		"2024-03-05T06:07:08.09":              {Kind: date.DateTime, Year: 2024, Month: 3, Day: 5, Sec: 6*3600 + 7*60 + 8, Nano: 90000000},
		"2024-03-05T06:07:08.123456789Z":      {Kind: date.DateTime, Year: 2024, Month: 3, Day: 5, Sec: 6*3600 + 7*60 + 8, Nano: 123456789, HasZone: true},
		"2024-03-05T06:07:08.000000001-00:00": {Kind: date.DateTime, Year: 2024, Month: 3, Day: 5, Sec: 6*3600 + 7*60 + 8, Nano: 1, HasZone: true},
		"2024-02-28T24:00:00+05:45":           {Kind: date.DateTime, Year: 2024, Month: 2, Day: 29, HasZone: true, Zone: 345},
		"2023-02-28T24:00:00.0-05:45":         {Kind: date.DateTime, Year: 2023, Month: 3, Day: 1, HasZone: true, Zone: -345},
		"-0001-12-31T24:00:00":                {Kind: date.DateTime, Year: 1, Month: 1, Day: 1},
		"-0002-12-31T24:00:00":                {Kind: date.DateTime, Year: -1, Month: 1, Day: 1},
		"999999999-12-31T24:00:00":            {Kind: date.DateTime, Year: 1000000000, Month: 1, Day: 1},
		"-999999999-01-01T00:00:00":           {Kind: date.DateTime, Year: -999999999, Month: 1, Day: 1},
		"-0005-02-29":                         {Kind: date.Date, Year: -5, Month: 2, Day: 29},
		"2024-12-31-14:00":                    {Kind: date.Date, Year: 2024, Month: 12, Day: 31, HasZone: true, Zone: -840},
		"24:00:00.000":                        {Kind: date.Time, Year: 2000, Month: 1, Day: 1},
		"00:00:00":                            {Kind: date.Time, Year: 2000, Month: 1, Day: 1},
		"23:59:59.9+14:00":                    {Kind: date.Time, Year: 2000, Month: 1, Day: 1, Sec: 86399, Nano: 900000000, HasZone: true, Zone: 840},
		"-0044-03":                            {Kind: date.YearMonth, Year: -44, Month: 3, Day: 1},
		"2024-12Z":                            {Kind: date.YearMonth, Year: 2024, Month: 12, Day: 1, HasZone: true},
		"2024":                                {Kind: date.Year, Year: 2024, Month: 1, Day: 1},
		"-2024-01:30":                         {Kind: date.Year, Year: -2024, Month: 1, Day: 1, HasZone: true, Zone: -90},
		"--02-29":                             {Kind: date.MonthDay, Year: 2000, Month: 2, Day: 29},
		"--12-01+01:00":                       {Kind: date.MonthDay, Year: 2000, Month: 12, Day: 1, HasZone: true, Zone: 60},
		"---31":                               {Kind: date.Day, Year: 2000, Month: 1, Day: 31},
		"---09-09:00":                         {Kind: date.Day, Year: 2000, Month: 1, Day: 9, HasZone: true, Zone: -540},
		"--07":                                {Kind: date.Month, Year: 2000, Month: 7, Day: 1},
		"--12-12:12":                          {Kind: date.Month, Year: 2000, Month: 12, Day: 1, HasZone: true, Zone: -732},
	} {
		for kind := date.DateTime; kind <= date.Month; kind++ {
			m, err := date.Parse(kind, s)
			if kind == want.Kind && (err != api.OK || m != want) {
				t.Errorf("Parse(%d, %q): %+v, %v", kind, s, m, err)
			}
			if kind != want.Kind && (err != api.ErrForm || m != date.Moment{}) {
				t.Errorf("Parse(%d, %q): %+v, %v", kind, s, m, err)
			}
		}
	}
}

// TestP602WrongTexts: none of them is a text of any kind.
func TestP602WrongTexts(t *testing.T) {
	for _, s := range []string{
		"", " ", "Z", "+00:00", "-", "--", "---", "----", "T", "P1Y", "now", "\x00", "\xff", "\u0662\u0660\u0660\u0660",
		"2000-01-01T", "2000-01-01T00", "2000-01-01T00:00", "2000-01-01T00:00:00.", "2000-01-01T00:00:00.Z", "2000-01-01T00:00:00.1234567890", "2000-01-01T00:00:00,5", "2000-01-01 00:00:00", "2000-01-01t00:00:00", "2000-01-01T00:00:00z",
		"2000-01-01T24:00:01", "2000-01-01T24:00:00.1", "2000-01-01T24:00:00.000000001", "2000-01-01T25:00:00", "2000-01-01T23:59:60", "2000-01-01T0:00:00", "2000-01-01T000:00:00", "2000-01-01T-1:00:00",
		"2000-01-01T00:00:00ZZ", "2000-01-01T00:00:00Z+00:00", "2000-01-01T00:00:00+00", "2000-01-01T00:00:00+0000", "2000-01-01T00:00:00+0:00", "2000-01-01T00:00:00+00:0", "2000-01-01T00:00:00+00:000", "2000-01-01T00:00:00+00:60", "2000-01-01T00:00:00+14:01", "2000-01-01T00:00:00-14:30", "2000-01-01T00:00:00+15:00", "2000-01-01T00:00:00*01:00", "2000-01-01T00:00:00 Z", "2000-01-01T00:00:00+", "2000-01-01T00:00:0001:00",
		"2000-02-30", "1900-02-29", "-0004-02-29", "2000-04-31", "2000-06-31", "2000-09-31", "2000-11-31", "2000-00-01", "2000-01-00", "2000-1-01", "2000-01-1", "2000/01/01", "200001011T", "2000-01-001",
		"12:00", "12:00:0", "12:0:00", "12-00-00", "12:00:00.", "12:00:00..5", "12:00:00.+1", "12:00:00.5.5", " 12:00:00", "12:00:00\n",
		"2000-", "2000-00", "2000-13", "2000-1", "2000-001", "-2000-", "200-01",
		"--02-30", "--04-31", "--00-01", "--01-00", "--1-01", "--01-1", "-01-01", "--13-01", "---00", "---32", "---1", "---001", "----01", "--00", "--13", "--1", "--001", "--01--", "--01---", "--02-30Z",
	} {
		for kind := date.DateTime; kind <= date.Month; kind++ {
			if m, err := date.Parse(kind, s); err != api.ErrForm || m != (date.Moment{}) {
				t.Errorf("Parse(%d, %q): %+v, %v", kind, s, m, err)
			}
		}
	}
}

// TestP602Kinds: a kind that is none is told ahead of the text.
func TestP602Kinds(t *testing.T) {
	if date.DateTime != 1 || date.Date != 2 || date.Time != 3 || date.YearMonth != 4 || date.Year != 5 || date.MonthDay != 6 || date.Day != 7 || date.Month != 8 || date.Duration != 9 {
		t.Error("the kinds' numbers")
	}
	for _, kind := range []int{math.MinInt, -1, 0, 9, 10, math.MaxInt} {
		for _, s := range append([]string{"", "x", "P1Y"}, seeds...) {
			if m, err := date.Parse(kind, s); err != api.ErrArg || m != (date.Moment{}) {
				t.Errorf("Parse(%d, %q): %+v, %v", kind, s, m, err)
			}
		}
	}
}

// TestP602EachByte: in each place of a text that takes digits alone no other
// byte is taken.
func TestP602EachByte(t *testing.T) {
	const s = "2000-11-11T11:11:11.111111111+11:11"
	f := forms()[date.DateTime]
	for i := range len(s) {
		for c := range 256 {
			turned := []byte(s)
			turned[i] = byte(c)
			check(t, f, date.DateTime, string(turned))
		}
	}
}

// TestP1LongTexts: what goes on and on is no text.
func TestP1LongTexts(t *testing.T) {
	r := rand.New(rand.NewSource(6))
	for _, c := range []string{"0", "9", "-", "P", "T", ":", ".", "Z", "P1Y", "2000-", "\xff"} {
		s := strings.Repeat(c, 1<<16+r.Intn(9))
		for kind := date.DateTime; kind <= date.Month; kind++ {
			for _, s := range []string{s, "2000" + s, "--01" + s, "12:00:00" + s} {
				if m, err := date.Parse(kind, s); err != api.ErrForm || m != (date.Moment{}) {
					t.Errorf("Parse(%d, %.20q..): %+v, %v", kind, s, m, err)
				}
			}
		}
		for _, s := range []string{s, "P" + s, "PT1." + s} {
			if d, err := date.ParseSpan(s); err != api.ErrForm || d != (date.Span{}) {
				t.Errorf("ParseSpan(%.20q..): %+v, %v", s, d, err)
			}
		}
	}
}

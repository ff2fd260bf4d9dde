package date_test

import (
	"math/rand"
	"regexp"
	"strconv"
	"testing"
	"time"

	"rubric/api"
	"rubric/date"
)

// length is the span of a text that must be one.
func length(t *testing.T, s string) date.Span {
	t.Helper()
	d, err := date.ParseSpan(s)
	if err != api.OK {
		t.Fatalf("ParseSpan(%q): %v", s, err)
	}
	return d
}

func TestP604ParseSpanTable(t *testing.T) {
	for s, want := range map[string]date.Span{
		"P1Y": {Months: 12}, "P1M": {Months: 1}, "P1D": {Sec: 86400}, "PT1H": {Sec: 3600}, "PT1M": {Sec: 60}, "PT1S": {Sec: 1},
		"P0Y": {}, "-P0Y": {}, "-PT0S": {}, "-PT0.0S": {}, "-P0Y0M0DT0H0M0.000000000S": {}, "P000000012M": {Months: 12}, "P12M": {Months: 12}, "P13M": {Months: 13},
		"P1Y1M": {Months: 13}, "P1Y1D": {Months: 12, Sec: 86400}, "P1M1D": {Months: 1, Sec: 86400}, "P1MT1M": {Months: 1, Sec: 60}, "P1YT1S": {Months: 12, Sec: 1}, "PT1H1S": {Sec: 3601}, "PT36H": {Sec: 129600}, "PT60M": {Sec: 3600},
		"PT0.5S": {Nano: 500000000}, "-PT0.5S": {Nano: -500000000}, "PT1.000000001S": {Sec: 1, Nano: 1}, "PT1.123456789S": {Sec: 1, Nano: 123456789}, "PT1.10S": {Sec: 1, Nano: 100000000},
		"P1Y2M3DT4H5M6.07S":                      {Months: 14, Sec: 3*86400 + 4*3600 + 5*60 + 6, Nano: 70000000},
		"-P1Y2M3DT4H5M6.07S":                     {Months: -14, Sec: -3*86400 - 4*3600 - 5*60 - 6, Nano: -70000000},
		"P999999999Y999999999M999999999D":        {Months: 999999999 * 13, Sec: 999999999 * 86400},
		"-PT999999999H999999999M999999999.9S":    {Sec: -999999999 * 3661, Nano: -900000000},
		"P999999999DT999999999H999999999M0.1S":   {Sec: 999999999 * (86400 + 3600 + 60), Nano: 100000000},
		"-P999999999YT999999999S":                {Months: -999999999 * 12, Sec: -999999999},
		"P000000000Y000000001M000000000DT00001S": {Months: 1, Sec: 1},
	} {
		if d, err := date.ParseSpan(s); err != api.OK || d != want {
			t.Errorf("ParseSpan(%q): %+v, %v", s, d, err)
		}
	}
	for _, s := range []string{
		"", "-", "P", "-P", "PT", "-PT", "T", "T1S", "1Y", "--P1Y", "+P1Y", "P-1Y", "P+1Y", "p1Y", "P1y", " P1Y", "P1Y ", "P 1Y", "P1 Y", "PP1Y", "P1YP1M",
		"P1", "P1Y1", "PY", "PM", "PTS", "PTM", "P1H", "P1S", "PT1Y", "PT1D", "P1YT", "P1Y2M3DT", "PT1HT1M", "P1TM", "PT1H1H", "P1Y1Y", "P1M1M", "P1D1D", "PT1S1S", "PT1M1M",
		"P1M1Y", "P1D1M", "P1D1Y", "PT1M1H", "PT1S1M", "PT1S1H", "PT1M1D", "P1W", "P1.5Y", "P1.5M", "P1.5D", "PT1.5H", "PT1.5M", "PT1.S", "PT.5S", "PT.S", "PT1.5", "PT1..5S", "PT1.5.5S", "PT1,5S", "PT1.1234567890S", "PT1.-5S", "PT1.5SS",
		"P1234567890Y", "P0000000001Y", "P1Y1234567890M", "P1234567890D", "PT1234567890H", "PT1234567890M", "PT1234567890S", "PT1234567890.5S", "P1e3Y", "P\u0661Y", "P1Y\x00", "\xff", "P1Y\n",
	} {
		if d, err := date.ParseSpan(s); err != api.ErrForm || d != (date.Span{}) {
			t.Errorf("ParseSpan(%q): %+v, %v", s, d, err)
		}
	}
}

var spanText = regexp.MustCompile(`^(-?)P(?:([0-9]{1,9})Y)?(?:([0-9]{1,9})M)?(?:([0-9]{1,9})D)?(?:T(?:([0-9]{1,9})H)?(?:([0-9]{1,9})M)?(?:([0-9]{1,9})(?:\.([0-9]{1,9}))?S)?)?$`)

// spanTold is what ParseSpan has to answer, by a grammar.
func spanTold(s string) (date.Span, bool) {
	l := spanText.FindStringSubmatch(s)
	if l == nil || s[len(s)-1] == 'P' || s[len(s)-1] == 'T' {
		return date.Span{}, false
	}
	num := func(group int) int {
		n, _ := strconv.Atoi(l[group])
		return n
	}
	d := date.Span{Months: 12*num(2) + num(3), Sec: 86400*num(4) + 3600*num(5) + 60*num(6) + num(7)}
	d.Nano, _ = strconv.Atoi((l[8] + "000000000")[:9])
	if l[1] == "-" {
		d = date.Span{Months: -d.Months, Sec: -d.Sec, Nano: -d.Nano}
	}
	return d, true
}

func checkSpan(t *testing.T, s string) bool {
	t.Helper()
	d, err := date.ParseSpan(s)
	want, ok := spanTold(s)
	if ok != (err == api.OK) || !ok && err != api.ErrForm || d != want {
		t.Fatalf("ParseSpan(%q): %+v, %v; want %+v, %v", s, d, err, want, ok)
	}
	return ok
}

// TestP604ShortSpans: each text of such letters behind a P, as the grammar has it.
func TestP604ShortSpans(t *testing.T) {
	count := 0
	var longer func(s string, n int)
	longer = func(s string, n int) {
		if checkSpan(t, s) {
			count++
		}
		if n > 0 {
			for _, c := range "07YMDTHS." {
				longer(s+string(c), n-1)
			}
		}
	}
	longer("P", 6)
	longer("-PT", 4)
	if count < 500 {
		t.Errorf("only %d are spans", count)
	}
}

// TestP604NearSpans: a long span with each byte turned into each other, taken
// away, doubled.
func TestP604NearSpans(t *testing.T) {
	for _, s := range []string{"-P1Y2M3DT4H5M6.7S", "P123456789Y123456789M123456789DT123456789H123456789M123456789.123456789S"} {
		for i := range len(s) {
			for c := range 256 {
				checkSpan(t, s[:i]+string([]byte{byte(c)})+s[i+1:])
				checkSpan(t, s[:i]+string([]byte{byte(c)})+s[i:])
			}
			checkSpan(t, s[:i]+s[i+1:])
			checkSpan(t, s[:i])
			for k := i; k <= len(s); k++ {
				checkSpan(t, s[:i]+s[k:])
			}
		}
	}
}

func TestP604AddTable(t *testing.T) {
	for _, c := range []struct{ from, span, want string }{
		{"2000-01-12T12:13:14Z", "P1Y3M5DT7H10M3.3S", "2001-04-17T19:23:17.3Z"},
		{"2000-01-31T00:00:00", "P1M", "2000-02-29T00:00:00"},
		{"2001-01-31T00:00:00", "P1M", "2001-02-28T00:00:00"},
		{"2000-01-31T00:00:00", "P1M1D", "2000-03-01T00:00:00"},
		{"2000-02-29T00:00:00", "P1Y", "2001-02-28T00:00:00"},
		{"2000-02-29T00:00:00", "P4Y", "2004-02-29T00:00:00"},
		{"2000-02-29T00:00:00", "-P100Y", "1900-02-28T00:00:00"},
		{"2000-03-31T12:00:00", "-P1M", "2000-02-29T12:00:00"},
		{"2000-03-30T12:00:00", "-P1M1D", "2000-02-28T12:00:00"},
		{"2000-05-31T00:00:00", "P1M", "2000-06-30T00:00:00"},
		{"2000-12-31T00:00:00", "P2M", "2001-02-28T00:00:00"},
		{"2000-12-15T00:00:00", "P1M", "2001-01-15T00:00:00"},
		{"2000-01-15T00:00:00", "-P1M", "1999-12-15T00:00:00"},
		{"1999-12-31T23:59:59.9", "PT0.1S", "2000-01-01T00:00:00"},
		{"2000-01-01T00:00:00", "-PT0.000000001S", "1999-12-31T23:59:59.999999999"},
		{"2000-01-01T00:00:00.5", "-PT1.6S", "1999-12-31T23:59:58.9"},
		{"-0001-12-31T23:59:59", "PT1S", "0001-01-01T00:00:00"},
		{"0001-01-01T00:00:00", "-PT1S", "-0001-12-31T23:59:59"},
		{"-0001-01-31T00:00:00", "P1M", "-0001-02-29T00:00:00"},
		{"-0001-06-15T00:00:00", "P1Y", "0001-06-15T00:00:00"},
		{"0001-06-15T00:00:00", "-P1Y", "-0001-06-15T00:00:00"},
		{"0004-02-29T00:00:00", "-P4Y", "-0001-02-29T00:00:00"},
		{"0004-02-29T00:00:00", "-P5Y", "-0002-02-28T00:00:00"},
		{"-0002-06-15T00:00:00", "P24M", "0001-06-15T00:00:00"},
		{"2000-01-01T00:00:00+14:00", "P366D", "2001-01-01T00:00:00+14:00"},
		{"2000-01-01T23:00:00-05:30", "PT2H", "2000-01-02T01:00:00-05:30"},
		{"2000-01-01T00:00:00", "P146097D", "2400-01-01T00:00:00"},
		{"2000-01-01T00:00:00", "-P146097D", "1600-01-01T00:00:00"},
		{"2000-01-01T00:00:00", "P146096D", "2399-12-31T00:00:00"},
	} {
		got, want := date.Add(at(t, date.DateTime, c.from), length(t, c.span)), at(t, date.DateTime, c.want)
		if got != want {
			t.Errorf("%s and %s: %+v", c.from, c.span, got)
		}
	}
	// Numbers of unlike signs, and more of them than a second or a year has.
	m := date.Add(at(t, date.DateTime, "2000-01-31T00:00:00"), date.Span{Months: 13, Sec: -86400, Nano: 3_500_000_000})
	if m != (date.Moment{Kind: date.DateTime, Year: 2001, Month: 2, Day: 27, Sec: 3, Nano: 500000000}) {
		t.Errorf("unlike signs: %+v", m)
	}
	m = date.Add(at(t, date.DateTime, "2000-01-31T00:00:00"), date.Span{Months: -1, Sec: 86400, Nano: -3_500_000_000})
	if m != (date.Moment{Kind: date.DateTime, Year: 1999, Month: 12, Day: 31, Sec: 86396, Nano: 500000000}) {
		t.Errorf("unlike signs: %+v", m)
	}
}

// TestP604AddKeepsKindAndZone: of each kind.
func TestP604AddKeepsKindAndZone(t *testing.T) {
	for kind, s := range map[int]string{date.DateTime: "2000-01-01T00:00:00", date.Date: "2000-01-01", date.Time: "00:00:00", date.YearMonth: "2000-01", date.Year: "2000", date.MonthDay: "--01-01", date.Day: "---01", date.Month: "--01"} {
		for _, zone := range []string{"", "Z", "+14:00", "-00:01"} {
			m := at(t, kind, s+zone)
			want := m
			want.Year, want.Month, want.Day, want.Sec, want.Nano = 2001, 2, 2, 1, 500000000
			if got := date.Add(m, length(t, "P1Y1M1DT1.5S")); got != want {
				t.Errorf("%s: %+v", s+zone, got)
			}
			if got := date.Add(m, date.Span{}); got != m {
				t.Errorf("%s and nothing: %+v", s+zone, got)
			}
		}
	}
}

// addThere is what Add has to answer, by the library's times.
func addThere(m date.Moment, d date.Span) date.Moment {
	first := time.Date(there(m.Year), time.Month(m.Month+d.Months), 1, 0, 0, 0, 0, time.UTC)
	most := first.AddDate(0, 1, -1).Day()
	whole := time.Date(first.Year(), first.Month(), min(m.Day, most), 0, 0, m.Sec+d.Sec, m.Nano+d.Nano, time.UTC)
	m.Year, m.Month, m.Day = back(whole.Year()), int(whole.Month()), whole.Day()
	m.Sec, m.Nano = 3600*whole.Hour()+60*whole.Minute()+whole.Second(), whole.Nanosecond()
	return m
}

// TestP604AddRandom: within all that a span may be; years of more than nine
// digits come out too.
func TestP604AddRandom(t *testing.T) {
	r := rand.New(rand.NewSource(9))
	signed := func(n int) int {
		bound := []int{2, 100, 100_000, 1 << 31, 1 << 40}[r.Intn(5)]
		return r.Intn(2*min(bound, n)+1) - min(bound, n)
	}
	long := 0
	for range 100000 {
		m, d := some(r), date.Span{Months: signed(1 << 34), Sec: signed(1 << 40), Nano: signed(1 << 40)}
		got, want := date.Add(m, d), addThere(m, d)
		if got != want {
			t.Fatalf("Add(%+v, %+v): %+v; want %+v", m, d, got, want)
		}
		if got.Year > 999999999 || got.Year < -999999999 {
			long++
		}
	}
	if long < 1000 {
		t.Errorf("only %d years are of more than nine digits", long)
	}
}

// TestP604AddAtTheBound: numbers of 2^40, told by what the Gregorian rule gives.
func TestP604AddAtTheBound(t *testing.T) {
	from := at(t, date.DateTime, "2000-01-01T00:00:00")
	for _, c := range []struct {
		d                     date.Span
		year, month, day, sec int
		nano                  int
	}{
		{date.Span{Months: 1 << 40}, 2000 + (1<<40)/12, 5, 1, 0, 0},
		{date.Span{Months: -1 << 40}, 2000 - (1<<40)/12 - 2, 9, 1, 0, 0},
		{date.Span{Nano: 1 << 40}, 2000, 1, 1, 1099, 511627776},
		{date.Span{Nano: -1 << 40}, 1999, 12, 31, 85300, 488372224},
		{date.Span{Sec: 86400 * roundDays * 80}, 2000 + 400*80, 1, 1, 0, 0},
		{date.Span{Sec: -86400 * roundDays * 80}, 2000 - 400*80 - 1, 1, 1, 0, 0},
		{date.Span{Months: 12 * 1_000_000_000}, 1_000_002_000, 1, 1, 0, 0},
	} {
		want := date.Moment{Kind: date.DateTime, Year: c.year, Month: c.month, Day: c.day, Sec: c.sec, Nano: c.nano}
		if got := date.Add(from, c.d); got != want {
			t.Errorf("Add of %+v: %+v; want %+v", c.d, got, want)
		}
	}
}

const roundDays = 146097

// TestP604EachDay: a day more is the next day, through all of the rule's round
// and through the year that is not.
func TestP604EachDay(t *testing.T) {
	for _, s := range []string{"1799-12-31T00:00:00", "-0202-12-31T00:00:00"} {
		m := at(t, date.DateTime, s)
		from, first := m, date.Days(m.Year, m.Month, m.Day)
		for k := 1; k <= roundDays+1000; k++ {
			m = date.Add(m, date.Span{Sec: 86400})
			if date.Days(m.Year, m.Month, m.Day) != first+k || m.Day < 1 || m.Day > date.Length(m.Year, m.Month) || m.Year == 0 {
				t.Fatalf("%d days behind %s: %+v", k, s, m)
			}
			if back := date.Add(m, date.Span{Sec: -86400 * k}); back != from {
				t.Fatalf("%d days ahead of %+v: %+v", k, m, back)
			}
		}
	}
}

func TestP604CmpSpanTable(t *testing.T) {
	for _, c := range []struct {
		a, b string
		want int
	}{
		{"P1Y", "P364D", date.Greater}, {"P1Y", "P365D", date.Unknown}, {"P1Y", "P366D", date.Unknown}, {"P1Y", "P367D", date.Less},
		{"P1M", "P27D", date.Greater}, {"P1M", "P28D", date.Unknown}, {"P1M", "P29D", date.Unknown}, {"P1M", "P30D", date.Unknown}, {"P1M", "P31D", date.Unknown}, {"P1M", "P32D", date.Less},
		{"P5M", "P149D", date.Greater}, {"P5M", "P150D", date.Unknown}, {"P5M", "P151D", date.Unknown}, {"P5M", "P152D", date.Unknown}, {"P5M", "P153D", date.Unknown}, {"P5M", "P154D", date.Less},
		{"P1M", "P27DT23H59M59.999999999S", date.Greater}, {"P1M", "P31DT0.000000001S", date.Less},
		{"P2M", "P59D", date.Unknown}, {"P2M", "P58D", date.Greater}, {"P2M", "P62D", date.Unknown}, {"P2M", "P63D", date.Less}, {"P3M", "P89D", date.Unknown}, {"P3M", "P88D", date.Greater}, {"P3M", "P92D", date.Unknown}, {"P3M", "P93D", date.Less},
		{"-P1M", "-P27D", date.Less}, {"-P1M", "-P32D", date.Greater}, {"-P1M", "-P30D", date.Unknown}, {"-P1M", "P1M", date.Less}, {"-P1D", "PT0S", date.Less}, {"PT0S", "-PT0S", date.Equal},
		{"P1Y", "P12M", date.Equal}, {"P1D", "PT24H", date.Equal}, {"PT1H", "PT60M", date.Equal}, {"PT1M", "PT60S", date.Equal}, {"P1M", "P1M", date.Equal}, {"P1Y1D", "P12MT24H", date.Equal},
		{"P1M", "P1MT0.000000001S", date.Less}, {"PT1.5S", "PT1.6S", date.Less}, {"P13M", "P1Y", date.Greater}, {"P1Y", "P11M", date.Greater},
		{"P400Y", "P146097D", date.Equal}, {"P4800M", "P146097D", date.Equal}, {"P400Y1M", "P146097D", date.Greater}, {"-P400Y", "-P146097D", date.Equal},
		{"P4Y", "P1461D", date.Unknown}, {"P4Y", "P1459D", date.Greater}, {"P4Y", "P1462D", date.Less},
		{"P999999999Y", "P999999999D", date.Greater}, {"-P999999999Y", "-P999999999D", date.Less}, {"P999999999Y999999999M", "P999999999Y999999998M", date.Greater}, {"PT999999999H", "P999999999D", date.Less}, {"P999999999DT0.000000001S", "P999999999D", date.Greater},
		{"P2000000Y", "P730485000D", date.Equal}, {"P2000000Y", "P730485000DT0.000000001S", date.Less},
	} {
		a, b := length(t, c.a), length(t, c.b)
		if got := date.CmpSpan(a, b); got != c.want {
			t.Errorf("CmpSpan(%s, %s): %d", c.a, c.b, got)
		}
		if got := date.CmpSpan(b, a); got != turned(c.want) {
			t.Errorf("CmpSpan(%s, %s): %d", c.b, c.a, got)
		}
	}
}

// spanOrder is what CmpSpan has to answer, as the chapter says it.
func spanOrder(a, b date.Span) int {
	seen := map[int]int{}
	out := 0
	for _, from := range [][2]int{{1696, 9}, {1697, 2}, {1903, 3}, {1903, 7}} {
		m := date.Moment{Kind: date.DateTime, Year: from[0], Month: from[1], Day: 1}
		out = lineThere(addThere(m, a), 0).Cmp(lineThere(addThere(m, b), 0))
		seen[out]++
	}
	if len(seen) > 1 {
		return date.Unknown
	}
	return out
}

// TestP604CmpSpanRandom: of spans whose lengths are near to one another.
func TestP604CmpSpanRandom(t *testing.T) {
	r := rand.New(rand.NewSource(10))
	count := map[int]int{}
	for range 40000 {
		months := r.Intn(100) - 50
		a := date.Span{Months: months}
		b := date.Span{Months: months + r.Intn(5) - 2}
		b.Sec = 86400*((a.Months-b.Months)*30+r.Intn(9)-4) + r.Intn(3) - 1
		a.Nano, b.Nano = r.Intn(3)-1, r.Intn(3)-1
		if r.Intn(4) == 0 {
			b.Months, b.Sec = a.Months, a.Sec
		}
		want := spanOrder(a, b)
		if got := date.CmpSpan(a, b); got != want {
			t.Fatalf("CmpSpan(%+v, %+v): %d; want %d", a, b, got, want)
		}
		count[want]++
	}
	for _, c := range []int{date.Less, date.Equal, date.Greater, date.Unknown} {
		if count[c] < 500 {
			t.Errorf("only %d pairs are %d", count[c], c)
		}
	}
}

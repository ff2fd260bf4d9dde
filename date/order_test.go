package date_test

import (
	"math/big"
	"math/rand"
	"strings"
	"testing"

	"rubric/date"
)

// lineThere is a moment's line in nanoseconds, in that zone.
func lineThere(m date.Moment, zone int) *big.Int {
	out := big.NewInt(int64(daysThere(m.Year, m.Month, m.Day)))
	out.Mul(out, big.NewInt(86400))
	out.Add(out, big.NewInt(int64(m.Sec-60*zone)))
	out.Mul(out, big.NewInt(1_000_000_000))
	return out.Add(out, big.NewInt(int64(m.Nano)))
}

// order is what Cmp has to answer, as the chapter says it.
func order(a, b date.Moment) int {
	if a.Kind != b.Kind {
		return date.Unknown
	}
	if a.HasZone && b.HasZone {
		return lineThere(a, a.Zone).Cmp(lineThere(b, b.Zone))
	}
	if !a.HasZone && !b.HasZone {
		return lineThere(a, 0).Cmp(lineThere(b, 0))
	}
	if a.HasZone {
		return turned(order(b, a))
	}
	other := lineThere(b, b.Zone)
	east, west := lineThere(a, 840).Cmp(other), lineThere(a, -840).Cmp(other)
	if east < 0 && west < 0 {
		return date.Less
	}
	if east > 0 && west > 0 {
		return date.Greater
	}
	return date.Unknown
}

// turned is an order seen from the other side.
func turned(c int) int {
	if c == date.Unknown {
		return c
	}
	return -c
}

func TestP603Table(t *testing.T) {
	if date.Less != -1 || date.Equal != 0 || date.Greater != 1 || date.Unknown != 2 {
		t.Error("the orders' numbers")
	}
	for _, c := range []struct {
		kind int
		a, b string
		want int
	}{
		{date.DateTime, "2000-01-15T12:00:00", "2000-01-15T12:00:00", date.Equal},
		{date.DateTime, "2000-01-15T12:00:00", "2000-01-15T12:00:00Z", date.Unknown},
		{date.DateTime, "2000-01-15T00:00:00", "2000-02-15T00:00:00", date.Less},
		{date.DateTime, "2000-01-15T12:00:00", "2000-01-16T12:00:00Z", date.Less},
		{date.DateTime, "2000-01-01T12:00:00", "1999-12-31T23:00:00Z", date.Unknown},
		{date.DateTime, "2000-01-16T12:00:00", "2000-01-16T12:00:00Z", date.Unknown},
		{date.DateTime, "2000-01-16T00:00:00", "2000-01-16T12:00:00Z", date.Unknown},
		{date.DateTime, "2000-01-15T00:00:00", "2000-01-15T14:00:00Z", date.Unknown},
		{date.DateTime, "2000-01-15T00:00:00", "2000-01-15T14:00:00.000000001Z", date.Less},
		{date.DateTime, "2000-01-15T00:00:00", "2000-01-15T14:00:01Z", date.Less},
		{date.DateTime, "2000-01-15T14:00:00", "2000-01-15T00:00:00Z", date.Unknown},
		{date.DateTime, "2000-01-15T14:00:00.000000001", "2000-01-15T00:00:00Z", date.Greater},
		{date.DateTime, "2000-01-15T00:00:00", "2000-01-15T14:00:00+00:01", date.Unknown},
		{date.DateTime, "2000-01-15T00:00:00", "2000-01-15T14:00:00-00:01", date.Less},
		{date.DateTime, "2000-01-15T00:00:00", "2000-01-15T00:00:00-14:00", date.Unknown},
		{date.DateTime, "2000-01-15T00:00:00", "2000-01-15T00:00:00+14:00", date.Unknown},
		{date.DateTime, "2000-01-15T00:00:00-14:00", "2000-01-16T04:00:00+14:00", date.Equal},
		{date.DateTime, "2000-01-15T24:00:00", "2000-01-16T00:00:00", date.Equal},
		{date.DateTime, "2000-01-01T00:00:00+00:01", "1999-12-31T23:59:00Z", date.Equal},
		{date.DateTime, "2000-01-01T00:00:00+00:01", "1999-12-31T23:59:00.1Z", date.Less},
		{date.DateTime, "-0001-12-31T23:00:00-01:00", "0001-01-01T00:00:00Z", date.Equal},
		{date.DateTime, "-0002-01-01T00:00:00", "-0001-01-01T00:00:00", date.Less},
		{date.DateTime, "-999999999-01-01T00:00:00", "999999999-12-31T23:59:59", date.Less},
		{date.DateTime, "999999999-12-31T23:59:59.999999999", "999999999-12-31T23:59:59.999999998", date.Greater},
		{date.Date, "2000-01-01", "2000-01-01Z", date.Unknown},
		{date.Date, "2000-01-01+14:00", "1999-12-31-10:00", date.Equal},
		{date.Date, "2000-01-01", "2000-01-02Z", date.Less},
		{date.Date, "2000-01-02", "2000-01-01Z", date.Greater},
		{date.Date, "2000-01-01", "2000-01-02+10:00", date.Unknown},
		{date.Date, "2000-01-01", "2000-01-02+09:59", date.Less},
		{date.Time, "24:00:00", "00:00:00", date.Equal},
		{date.Time, "00:00:00", "23:59:59", date.Less},
		{date.Time, "00:00:00Z", "00:00:00-01:00", date.Less},
		{date.Time, "23:00:00-02:00", "01:00:00Z", date.Greater},
		{date.Time, "00:00:00", "14:00:01Z", date.Less},
		{date.Time, "00:00:00", "13:59:59Z", date.Unknown},
		{date.YearMonth, "1999-12", "2000-01", date.Less},
		{date.YearMonth, "1999-12", "2000-01Z", date.Less},
		{date.YearMonth, "2000-01+01:00", "2000-01Z", date.Less},
		{date.Year, "-0001", "0001", date.Less},
		{date.Year, "2000", "2000Z", date.Unknown},
		{date.Year, "2001", "2000-14:00", date.Greater},
		{date.MonthDay, "--02-29", "--03-01", date.Less},
		{date.MonthDay, "--02-29Z", "--03-01", date.Less},
		{date.MonthDay, "--02-29-10:00", "--03-01", date.Unknown},
		{date.Day, "---15", "---15", date.Equal},
		{date.Day, "---15", "---16Z", date.Less},
		{date.Day, "---15", "---16+10:00", date.Unknown},
		{date.Month, "--01", "--12", date.Less},
		{date.Month, "--12Z", "--12+14:00", date.Greater},
	} {
		a, b := at(t, c.kind, c.a), at(t, c.kind, c.b)
		if got := date.Cmp(a, b); got != c.want {
			t.Errorf("Cmp(%s, %s): %d", c.a, c.b, got)
		}
		if got := date.Cmp(b, a); got != turned(c.want) {
			t.Errorf("Cmp(%s, %s): %d", c.b, c.a, got)
		}
	}
}

// TestP603UnlikeKinds: though the lines be the same.
func TestP603UnlikeKinds(t *testing.T) {
	list := []date.Moment{
		at(t, date.DateTime, "2000-01-01T00:00:00"), at(t, date.Date, "2000-01-01"), at(t, date.Time, "00:00:00"), at(t, date.YearMonth, "2000-01"),
		at(t, date.Year, "2000"), at(t, date.MonthDay, "--01-01"), at(t, date.Day, "---01"), at(t, date.Month, "--01"),
	}
	for i, a := range list {
		for k, b := range list {
			want := date.Unknown
			if i == k {
				want = date.Equal
			}
			for range 2 {
				if got := date.Cmp(a, b); got != want {
					t.Errorf("Cmp(%+v, %+v): %d", a, b, got)
				}
				a.HasZone, b.HasZone = true, true
			}
			a.HasZone, b.HasZone = false, false
		}
	}
}

// near are moments of one kind around a few points, so that many are the same
// and many differ by the least.
func near(t *testing.T) []date.Moment {
	var out []date.Moment
	days := strings.Fields("1999-12-30 1999-12-31 2000-01-01 2000-01-02 -0001-12-31 0001-01-01")
	clocks := strings.Fields("00:00:00 00:00:00.000000001 09:59:59 10:00:00 13:59:59.999999999 14:00:00 14:00:00.5 23:59:00 24:00:00")
	for _, day := range days {
		for _, clock := range clocks {
			for _, zone := range []string{"", "Z", "+00:01", "-00:01", "+14:00", "-14:00", "-10:00"} {
				out = append(out, at(t, date.DateTime, day+"T"+clock+zone))
			}
		}
	}
	return out
}

// TestP603EachWithEach: as the chapter says it, on numbers without a bound.
func TestP603EachWithEach(t *testing.T) {
	count := map[int]int{}
	list := near(t)
	for _, a := range list {
		for _, b := range list {
			want := order(a, b)
			if got := date.Cmp(a, b); got != want {
				t.Fatalf("Cmp(%+v, %+v): %d; want %d", a, b, got, want)
			}
			count[want]++
		}
	}
	for _, c := range []int{date.Less, date.Equal, date.Greater, date.Unknown} {
		if count[c] < 100 {
			t.Errorf("only %d pairs are %d", count[c], c)
		}
	}
}

// some is a random moment of any kind, as Parse could tell it.
func some(r *rand.Rand) date.Moment {
	m := date.Moment{Kind: date.DateTime, Year: 1 + r.Intn(3000), Month: 1 + r.Intn(12), Sec: r.Intn(86400), Nano: r.Intn(1_000_000_000)}
	if r.Intn(4) == 0 {
		m.Year = 1 + r.Intn(999999999)
	}
	if r.Intn(2) == 0 {
		m.Year = -m.Year
	}
	m.Day = 1 + r.Intn(date.Length(m.Year, m.Month))
	if r.Intn(2) == 0 {
		m.HasZone, m.Zone = true, r.Intn(1681)-840
	}
	return m
}

func TestP603Random(t *testing.T) {
	r := rand.New(rand.NewSource(8))
	for range 20000 {
		a, b := some(r), some(r)
		if r.Intn(2) == 0 {
			b = date.Add(a, date.Span{Sec: r.Intn(200000) - 100000})
			b.HasZone, b.Zone = false, 0
		}
		if got, want := date.Cmp(a, b), order(a, b); got != want {
			t.Fatalf("Cmp(%+v, %+v): %d; want %d", a, b, got, want)
		}
	}
}

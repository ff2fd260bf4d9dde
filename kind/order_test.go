package kind_test

import (
	"strconv"
	"strings"
	"testing"

	"rubric/api"
	"rubric/date"
	"rubric/dec"
	"rubric/kind"
)

// turned is the order of b and a.
func turned(order int) int {
	if order == date.Unknown {
		return order
	}
	return -order
}

func TestP1103CmpTable(t *testing.T) {
	for _, c := range []struct {
		k    int
		a    string
		l    int
		b    string
		want int
	}{
		{kind.String, "a", kind.String, "a", date.Equal}, {kind.String, "", kind.Token, " ", date.Equal}, {kind.String, "a", kind.ID, " a ", date.Equal},
		{kind.String, "a", kind.String, "b", date.Unknown}, {kind.String, "a", kind.String, "a ", date.Unknown}, {kind.String, "a", kind.String, "A", date.Unknown}, {kind.String, "", kind.String, "a", date.Unknown},
		{kind.ID, "a", kind.IDRef, "a", date.Equal}, {kind.NMToken, "1", kind.NMToken, "01", date.Unknown},
		{kind.Boolean, "1", kind.Boolean, "true", date.Equal}, {kind.Boolean, "0", kind.Boolean, "false", date.Equal}, {kind.Boolean, "0", kind.Boolean, "1", date.Unknown},
		{kind.Boolean, "true", kind.String, "true", date.Unknown}, {kind.Boolean, "1", kind.Int, "1", date.Unknown}, {kind.String, "1", kind.Int, "1", date.Unknown},
		{kind.Decimal, "1.50", kind.Decimal, "+01.5", date.Equal}, {kind.Byte, "2", kind.Decimal, "2.0", date.Equal}, {kind.UnsignedLong, "18446744073709551615", kind.Integer, "18446744073709551616", date.Less},
		{kind.Int, "10", kind.Int, "9", date.Greater}, {kind.Negative, "-10", kind.Long, "-9", date.Less}, {kind.NonPositive, "-0", kind.NonNegative, "0", date.Equal}, {kind.Decimal, "0.1", kind.Positive, "1", date.Less},
		{kind.DateTime, "2000-01-01T00:00:00Z", kind.DateTime, "2000-01-01T01:00:00+01:00", date.Equal}, {kind.DateTime, "2000-01-01T24:00:00", kind.DateTime, "2000-01-02T00:00:00", date.Equal}, {kind.DateTime, "2000-01-01T00:00:00", kind.DateTime, "2000-01-01T00:00:00Z", date.Unknown}, {kind.DateTime, "2000-01-01T00:00:00", kind.DateTime, "2000-01-01T15:00:00Z", date.Less}, {kind.DateTime, "2000-01-01T00:00:00", kind.DateTime, "1999-12-31T09:59:59Z", date.Greater},
		{kind.Date, "-0001-12-31", kind.Date, "0001-01-01", date.Less}, {kind.Date, "2000-01-01Z", kind.Date, "2000-01-01+01:00", date.Greater},
		{kind.Time, "00:00:00", kind.Time, "24:00:00", date.Equal}, {kind.Time, "12:00:00Z", kind.Time, "12:00:00", date.Unknown},
		{kind.YearMonth, "2000-01", kind.YearMonth, "2000-02", date.Less}, {kind.Year, "12000", kind.Year, "2000", date.Greater}, {kind.MonthDay, "--02-29", kind.MonthDay, "--03-01", date.Less}, {kind.Day, "---31", kind.Day, "---30", date.Greater}, {kind.Month, "--05", kind.Month, "--05", date.Equal},
		{kind.Date, "2000-01-01", kind.DateTime, "2000-01-01T00:00:00", date.Unknown}, {kind.Date, "2000-01-01", kind.Time, "00:00:00", date.Unknown}, {kind.Year, "2000", kind.YearMonth, "2000-01", date.Unknown}, {kind.Day, "---01", kind.Month, "--01", date.Unknown}, {kind.MonthDay, "--01-01", kind.Month, "--01", date.Unknown},
		{kind.Duration, "P1Y", kind.Duration, "P12M", date.Equal}, {kind.Duration, "P1D", kind.Duration, "PT24H", date.Equal}, {kind.Duration, "P1M", kind.Duration, "P30D", date.Unknown}, {kind.Duration, "P1M", kind.Duration, "P32D", date.Less}, {kind.Duration, "PT0S", kind.Duration, "-PT1S", date.Greater}, {kind.Duration, "-PT0S", kind.Duration, "P0Y", date.Equal},
		{kind.Duration, "PT0S", kind.Decimal, "0", date.Unknown}, {kind.Duration, "PT0S", kind.Time, "00:00:00", date.Unknown}, {kind.Decimal, "2000", kind.Year, "2000", date.Unknown},
	} {
		a, b := val(t, c.k, c.a), val(t, c.l, c.b)
		if got := kind.Cmp(a, b); got != c.want || kind.Same(a, b) != (got == date.Equal) {
			t.Errorf("Cmp(%q, %q): %d, %v", c.a, c.b, got, kind.Same(a, b))
		}
		if got := kind.Cmp(b, a); got != turned(c.want) || kind.Same(b, a) != (got == date.Equal) {
			t.Errorf("Cmp(%q, %q): %d, %v", c.b, c.a, got, kind.Same(b, a))
		}
	}
}

// manyTexts are such as all the kinds take some of.
func manyTexts() []string {
	return append([]string{"", "a", "b", "a b", "a:b", "true", "false", "0", "1", "-1", "-0", "1.0", "01", "1.5", "100", "-100", "2001-02-03Z", "2001-02-03+14:00", "2001-02-03-14:00", "2001-02-04", "2001-02-03T04:05:06.789+00:01", "04:05:06Z", "P12M", "P365D", "P366D", "P28D", "P1M"}, timeTexts...)
}

// allValues is each text's value by each kind.
func allValues() []kind.Value {
	var out []kind.Value
	for k := 1; k <= kind.Duration; k++ {
		for _, s := range manyTexts() {
			if v, err := kind.Parse(k, s); err == api.OK {
				out = append(out, v)
			}
		}
	}
	return out
}

// orderOf is what Cmp has to answer, by the layers below.
func orderOf(a, b kind.Value) int {
	switch {
	case a.Prim != b.Prim:
		return date.Unknown
	case a.Prim == kind.Decimal:
		return []int{date.Less, date.Equal, date.Greater}[1+dec.Cmp(a.Num, b.Num)]
	case a.Prim == kind.Duration:
		return date.CmpSpan(a.Span, b.Span)
	case a.Prim >= kind.DateTime:
		return date.Cmp(a.When, b.When)
	case a.Text == b.Text:
		return date.Equal
	}
	return date.Unknown
}

// TestP1103CmpAll: each pair of values, whatever their kinds.
func TestP1103CmpAll(t *testing.T) {
	seen := map[[2]int]int{}
	list := allValues()
	for _, a := range list {
		if !kind.Same(a, a) {
			t.Errorf("%+v is not the same as itself", a)
		}
		for _, b := range list {
			want := orderOf(a, b)
			got := kind.Cmp(a, b)
			if got != want || kind.Same(a, b) != (want == date.Equal) || kind.Cmp(b, a) != turned(want) {
				t.Fatalf("Cmp(%+v, %+v): %d; want %d", a, b, got, want)
			}
			if a.Prim == b.Prim {
				seen[[2]int{a.Prim, got}]++
			}
		}
	}
	for _, order := range []int{date.Less, date.Equal, date.Greater, date.Unknown} {
		for _, prim := range []int{kind.String, kind.Boolean, kind.Decimal, kind.Date, kind.DateTime, kind.Duration} {
			text := prim == kind.String || prim == kind.Boolean
			may := order == date.Equal || text == (order == date.Unknown) || prim >= kind.DateTime
			if (seen[[2]int{prim, order}] > 0) != may {
				t.Errorf("%s: %d pairs are %d", kind.Name(prim), seen[[2]int{prim, order}], order)
			}
		}
	}
}

func TestP1103TextTable(t *testing.T) {
	for _, c := range []struct {
		k       int
		s, want string
	}{
		{kind.String, " a\n", " a\n"}, {kind.String, "", ""}, {kind.NormalizedString, "a\tb", "a b"}, {kind.Token, " a  b ", "a b"}, {kind.NCName, " n ", "n"}, {kind.String, "date 2001", "date 2001"},
		{kind.Boolean, "1", "true"}, {kind.Boolean, "true", "true"}, {kind.Boolean, "0", "false"}, {kind.Boolean, "false", "false"},
		{kind.Decimal, "+01.50", "1.5"}, {kind.Decimal, "-.5", "-0.5"}, {kind.Decimal, "-0.0", "0"}, {kind.Decimal, "100", "100"}, {kind.UnsignedByte, "+0255", "255"}, {kind.Negative, "-12", "-12"},
		{kind.DateTime, "2001-02-03T04:05:06", "dateTime 2001 2 3 14706 0"}, {kind.DateTime, "-0044-03-15T23:59:59.000000001-14:00", "dateTime -44 3 15 86399 1 -840"}, {kind.DateTime, "1999-12-31T24:00:00Z", "dateTime 2000 1 1 0 0 0"}, {kind.DateTime, "123456789-01-01T00:00:00.5+00:30", "dateTime 123456789 1 1 0 500000000 30"},
		{kind.Date, "2001-02-03", "date 2001 2 3 0 0"}, {kind.Date, "2001-02-03Z", "date 2001 2 3 0 0 0"}, {kind.Date, "2001-02-03-00:00", "date 2001 2 3 0 0 0"}, {kind.Date, "0001-12-31+14:00", "date 1 12 31 0 0 840"},
		{kind.Time, "01:00:00.25", "time 2000 1 1 3600 250000000"}, {kind.Time, "24:00:00-01:00", "time 2000 1 1 0 0 -60"},
		{kind.YearMonth, "1999-12", "gYearMonth 1999 12 1 0 0"}, {kind.Year, "-0001Z", "gYear -1 1 1 0 0 0"}, {kind.MonthDay, "--02-29", "gMonthDay 2000 2 29 0 0"}, {kind.Day, "---31+01:30", "gDay 2000 1 31 0 0 90"}, {kind.Month, "--05", "gMonth 2000 5 1 0 0"},
		{kind.Duration, "P1Y2M3DT4H5M6.7S", "duration 14 273906 700000000"}, {kind.Duration, "-P1DT1.5S", "duration 0 -86401 -500000000"}, {kind.Duration, "PT0S", "duration 0 0 0"}, {kind.Duration, "-P1M", "duration -1 0 0"},
	} {
		if got := kind.Text(val(t, c.k, c.s)); got != c.want {
			t.Errorf("Text of %s %q: %q", kind.Name(c.k), c.s, got)
		}
	}
}

// textOf is what Text has to answer, field by field.
func textOf(v kind.Value) string {
	name := kind.Name(v.Prim)
	l := []int{v.When.Year, v.When.Month, v.When.Day, v.When.Sec, v.When.Nano, v.When.Zone}
	switch {
	case name == "string" || name == "boolean":
		return v.Text
	case name == "decimal":
		return v.Num.Text()
	case name == "duration":
		l = []int{v.Span.Months, v.Span.Sec, v.Span.Nano}
	case !v.When.HasZone:
		l = l[:5]
	}
	words := []string{name}
	for _, n := range l {
		words = append(words, strconv.Itoa(n))
	}
	return strings.Join(words, " ")
}

// TestP1103TextAll: values of one Prim whose Texts are the same are the Same.
func TestP1103TextAll(t *testing.T) {
	list := allValues()
	for _, a := range list {
		if got := kind.Text(a); got != textOf(a) {
			t.Errorf("Text(%+v): %q", a, got)
		}
		for _, b := range list {
			if a.Prim == b.Prim && kind.Text(a) == kind.Text(b) && !kind.Same(a, b) {
				t.Errorf("%+v and %+v are %q", a, b, kind.Text(a))
			}
		}
	}
}

// TestP1103TextOfNoPrim: a kind that is derived is none either.
func TestP1103TextOfNoPrim(t *testing.T) {
	list := noKinds
	for k := 1; k <= kind.Duration; k++ {
		if kind.Base(k) != 0 {
			list = append(list[:len(list):len(list)], k)
		}
	}
	for _, k := range list {
		v := kind.Value{Prim: k, Text: "a", Num: num("1"), When: date.Moment{Kind: date.Date, Year: 2000, Month: 1, Day: 1}, Span: date.Span{Months: 1}}
		if got := kind.Text(v); got != "" {
			t.Errorf("Text of Prim %d: %q", k, got)
		}
		if got := kind.Text(kind.Value{Prim: k}); got != "" {
			t.Errorf("Text of Prim %d: %q", k, got)
		}
	}
}

// TestP1103UnlikePrims: even if all the fields are the same.
func TestP1103UnlikePrims(t *testing.T) {
	for a := 1; a <= kind.Duration; a++ {
		for b := 1; b <= kind.Duration; b++ {
			v := kind.Value{Prim: kind.Prim(a), Text: "1", Num: num("1"), When: date.Moment{Kind: date.Date, Year: 2000, Month: 1, Day: 1}}
			w := v
			w.Prim = kind.Prim(b)
			if v.Prim != w.Prim && (kind.Cmp(v, w) != date.Unknown || kind.Same(v, w)) {
				t.Errorf("%s and %s", kind.Name(v.Prim), kind.Name(w.Prim))
			}
		}
	}
}

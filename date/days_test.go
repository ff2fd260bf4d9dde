package date_test

import (
	"math"
	"math/rand"
	"testing"
	"time"

	"rubric/date"
)

// daysThere is what Days has to answer, by the library's times.
func daysThere(year, month, day int) int {
	const from = 946684800 // 2000-01-01 of the library's seconds
	return int(time.Date(there(year), time.Month(month), day, 0, 0, 0, 0, time.UTC).Unix()-from) / 86400
}

// years are those around each turn of the rule, and far ones.
func years() []int {
	var out []int
	for y := -2500; y <= 2500; y++ {
		out = append(out, y)
	}
	for _, y := range []int{9999, 10000, 40000, 999999999, 1000000000, math.MaxInt32} {
		for k := -5; k <= 5; k++ {
			out = append(out, y+k, -y+k)
		}
	}
	return out
}

func TestP602Leap(t *testing.T) {
	for _, y := range years() {
		if y == 0 {
			continue
		}
		first := time.Date(there(y), 1, 1, 0, 0, 0, 0, time.UTC)
		want := first.AddDate(1, 0, 0).Sub(first) == 366*24*time.Hour
		if date.Leap(y) != want {
			t.Errorf("Leap(%d): %v", y, !want)
		}
	}
	for y, want := range map[int]bool{0: true, -1: true, -2: false, -4: false, -5: true, -101: false, -401: true, -400: false, 4: true, 100: false, 400: true, 1900: false, 1996: true, 1999: false, 2000: true, 2100: false} {
		if date.Leap(y) != want {
			t.Errorf("Leap(%d): %v", y, !want)
		}
	}
}

func TestP602Length(t *testing.T) {
	for _, y := range years() {
		if y == 0 {
			continue
		}
		for month := 1; month <= 12; month++ {
			want := time.Date(there(y), time.Month(month)+1, 0, 0, 0, 0, 0, time.UTC).Day()
			if got := date.Length(y, month); got != want {
				t.Fatalf("Length(%d, %d): %d", y, month, got)
			}
		}
		for _, month := range []int{math.MinInt, -12, -1, 0, 13, 14, 24, math.MaxInt} {
			if got := date.Length(y, month); got != 0 {
				t.Fatalf("Length(%d, %d): %d", y, month, got)
			}
		}
	}
}

// TestP602Days: each day from year to year is one more.
func TestP602Days(t *testing.T) {
	want := date.Days(-2500, 1, 1)
	if want != daysThere(-2500, 1, 1) {
		t.Fatalf("Days of -2500: %d", want)
	}
	for y := -2500; y <= 2500; y++ {
		if y == 0 {
			continue
		}
		for month := 1; month <= 12; month++ {
			for day := 1; day <= date.Length(y, month); day++ {
				if got := date.Days(y, month, day); got != want {
					t.Fatalf("Days(%d, %d, %d): %d; want %d", y, month, day, got, want)
				}
				want++
			}
		}
	}
}

// TestP602DaysAnyNumbers: months and days that no calendar has.
func TestP602DaysAnyNumbers(t *testing.T) {
	r := rand.New(rand.NewSource(6))
	for _, y := range years() {
		if y == 0 {
			continue
		}
		for month := -30; month <= 30; month++ {
			day := r.Intn(2000) - 1000
			if got, want := date.Days(y, month, day), daysThere(y, month, day); got != want {
				t.Fatalf("Days(%d, %d, %d): %d; want %d", y, month, day, got, want)
			}
		}
		month, day := r.Intn(2_000_000_000)-1_000_000_000, r.Intn(2_000_000_000)-1_000_000_000
		if got, want := date.Days(y, month, day), daysThere(y, month, day); got != want {
			t.Fatalf("Days(%d, %d, %d): %d; want %d", y, month, day, got, want)
		}
	}
}

func TestP602DaysTable(t *testing.T) {
	for _, c := range [][4]int{
		{2000, 1, 1, 0}, {2000, 1, 2, 1}, {1999, 12, 31, -1}, {2000, 2, 29, 59}, {2000, 3, 1, 60}, {2001, 1, 1, 366}, {1970, 1, 1, -10957},
		{2000, 13, 1, 366}, {2000, 0, 1, -31}, {2000, -11, 1, -365}, {2000, 12, 32, 366}, {2000, 1, 32, 31}, {2000, 1, 0, -1}, {2000, 1, 367, 366},
		{1, 1, 1, -730119}, {-1, 12, 31, -730120}, {-1, 13, 1, -730119}, {1, 0, 31, -730120}, {-1, 1, 1, -730119 - 366}, {1, -11, 1, -730119 - 366}, {-2, 25, 1, -730119}, {1, -12, 31, -730119 - 367},
		{2400, 1, 1, 146097}, {1600, 1, 1, -146097}, {2000, 4801, 1, 146097}, {2000, 1, 146098, 146097}, {2000, -4799, 1, -146097},
		{2000, 1, math.MaxInt, math.MaxInt - 1}, {2000, 1, math.MinInt + 1, math.MinInt}, {2000, 1 + 4800*1_000_000_000, 1, 146097_000_000_000},
	} {
		if got := date.Days(c[0], c[1], c[2]); got != c[3] {
			t.Errorf("Days(%d, %d, %d): %d; want %d", c[0], c[1], c[2], got, c[3])
		}
	}
}

// TestP8AnyNumbers: whatever the numbers are, each call ends.
func TestP8AnyNumbers(t *testing.T) {
	list := []int{math.MinInt, math.MinInt + 1, -1 << 40, -86400, -1, 0, 1, 12, 13, 86400, 1 << 40, math.MaxInt - 1, math.MaxInt}
	r := rand.New(rand.NewSource(7))
	some := func() int { return list[r.Intn(len(list))] }
	for range 200000 {
		m := date.Moment{Kind: some(), Year: some(), Month: some(), Day: some(), Sec: some(), Nano: some(), HasZone: r.Intn(2) == 0, Zone: some()}
		n := date.Moment{Kind: m.Kind, Year: some(), Month: some(), Day: some(), Sec: some(), Nano: some(), HasZone: r.Intn(2) == 0, Zone: some()}
		d, e := date.Span{Months: some(), Sec: some(), Nano: some()}, date.Span{Months: some(), Sec: some(), Nano: some()}
		date.Add(m, d)
		date.Leap(m.Year)
		date.Length(m.Year, m.Month)
		date.Days(m.Year, m.Month, m.Day)
		if c := date.Cmp(m, n); c < date.Less || c > date.Unknown {
			t.Fatalf("Cmp(%+v, %+v): %d", m, n, c)
		}
		if c := date.CmpSpan(d, e); c < date.Less || c > date.Unknown {
			t.Fatalf("CmpSpan(%+v, %+v): %d", d, e, c)
		}
	}
}

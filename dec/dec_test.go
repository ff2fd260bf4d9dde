package dec_test

import (
	"bytes"
	"math"
	"math/big"
	"regexp"
	"strconv"
	"strings"
	"testing"

	"rubric/api"
	"rubric/dec"
)

// num is the number of a text that must be one.
func num(t *testing.T, s string) dec.Dec {
	t.Helper()
	d, err := dec.Parse(s)
	if err != api.OK || !d.Right() {
		t.Fatalf("Parse(%.40q): %+v, %v", s, d, err)
	}
	return d
}

// same tells whether two numbers are so field by field.
func same(a, b dec.Dec) bool {
	return a.Neg == b.Neg && a.Scale == b.Scale && bytes.Equal(a.Digits, b.Digits)
}

// zero tells whether nothing of a number is there.
func zero(d dec.Dec) bool {
	return same(d, dec.Dec{})
}

// value is what a text of digits with maybe a sign and a point counts, by
// numbers of the library's.
func value(s string) *big.Rat {
	neg := strings.HasPrefix(s, "-")
	ahead, behind, _ := strings.Cut(strings.TrimLeft(s, "+-"), ".")
	n, _ := new(big.Int).SetString(ahead+behind, 10)
	ten := new(big.Int).Exp(big.NewInt(10), big.NewInt(int64(len(behind))), nil)
	out := new(big.Rat).SetFrac(n, ten)
	if neg {
		out.Neg(out)
	}
	return out
}

// written is a number's text, made of its fields alone.
func written(d dec.Dec) string {
	var out strings.Builder
	if d.Neg {
		out.WriteByte('-')
	}
	for i, c := range d.Digits {
		if d.Scale > 0 && i == len(d.Digits)-d.Scale {
			out.WriteByte('.')
		}
		out.WriteString(strconv.Itoa(int(c)))
	}
	return out.String()
}

// rows tells each row of at most n letters.
func rows[T any](letters []T, n int, tell func([]T)) {
	var longer func(row []T)
	longer = func(row []T) {
		tell(row)
		if len(row) == n {
			return
		}
		for _, c := range letters {
			longer(append(row[:len(row):len(row)], c))
		}
	}
	longer(nil)
}

var canonical = regexp.MustCompile(`^-?(0|[1-9][0-9]*)(\.[0-9]*[1-9])?$`)

// TestP501Right: each small number, and such as are none, by the text that its
// fields make.
func TestP501Right(t *testing.T) {
	count := 0
	rows([]byte{0, 1, 9, 10, 48, 255}, 4, func(row []byte) {
		for scale := -2; scale <= 6; scale++ {
			for _, neg := range []bool{false, true} {
				d := dec.Dec{Neg: neg, Digits: row, Scale: scale}
				want := scale >= 0 && scale < len(row)
				for _, c := range row {
					want = want && c <= 9
				}
				if want {
					s := written(d)
					want = canonical.MatchString(s) && s != "-0"
				}
				if d.Right() != want {
					t.Fatalf("Right(%+v): %v", d, !want)
				}
				if want {
					count++
				}
			}
		}
	})
	if count < 100 {
		t.Fatalf("only %d are Right", count)
	}
}

func TestP501RightTable(t *testing.T) {
	for _, c := range []struct {
		d    dec.Dec
		want bool
	}{
		{dec.Dec{}, false},
		{dec.Dec{Digits: []byte{}}, false},
		{dec.Dec{Neg: true}, false},
		{dec.Dec{Digits: []byte{0}}, true},
		{dec.Dec{Digits: []byte{0}, Neg: true}, false},
		{dec.Dec{Digits: []byte{0, 0}}, false},
		{dec.Dec{Digits: []byte{0, 0}, Scale: 1}, false},
		{dec.Dec{Digits: []byte{0, 5}, Scale: 1}, true},
		{dec.Dec{Digits: []byte{0, 5}, Scale: 1, Neg: true}, true},
		{dec.Dec{Digits: []byte{0, 0, 5}, Scale: 2}, true},
		{dec.Dec{Digits: []byte{0, 0, 5}, Scale: 1}, false},
		{dec.Dec{Digits: []byte{5}, Scale: 1}, false},
		{dec.Dec{Digits: []byte{1, 0}}, true},
		{dec.Dec{Digits: []byte{1, 0}, Scale: 1}, false},
		{dec.Dec{Digits: []byte{1, 0, 2}, Scale: 1}, true},
		{dec.Dec{Digits: []byte{0, 1}}, false},
		{dec.Dec{Digits: []byte{9, 10}}, false},
		{dec.Dec{Digits: []byte{1, 255, 1}, Scale: 1}, false},
		{dec.Dec{Digits: []byte("12")}, false},
		{dec.Dec{Digits: []byte{1}, Scale: -1}, false},
		{dec.Dec{Digits: []byte{1}, Scale: math.MaxInt}, false},
		{dec.Dec{Digits: []byte{1}, Scale: math.MinInt}, false},
	} {
		if got := c.d.Right(); got != c.want {
			t.Errorf("Right(%+v): %v", c.d, got)
		}
	}
}

func TestP501RightAtTheBound(t *testing.T) {
	for _, scale := range []int{0, 1, api.MaxToken - 2, api.MaxToken - 1} {
		row := bytes.Repeat([]byte{7}, api.MaxToken+1)
		if d := (dec.Dec{Digits: row[:api.MaxToken], Scale: scale}); !d.Right() {
			t.Errorf("%d digits, %d behind the point: not Right", len(d.Digits), scale)
		}
		if d := (dec.Dec{Digits: row, Scale: scale}); d.Right() {
			t.Errorf("%d digits, %d behind the point: Right", len(d.Digits), scale)
		}
		row[api.MaxToken/2] = 10
		if (dec.Dec{Digits: row[:api.MaxToken], Scale: scale}).Right() {
			t.Error("a digit of 10: Right")
		}
	}
	row := bytes.Repeat([]byte{7}, api.MaxToken)
	if (dec.Dec{Digits: row, Scale: api.MaxToken}).Right() {
		t.Error("no digit ahead of the point: Right")
	}
}

var number = regexp.MustCompile(`^[+-]?([0-9]+(\.[0-9]*)?|\.[0-9]+)$`)

// TestP502Parse: each short text of such letters.
func TestP502Parse(t *testing.T) {
	count := 0
	rows([]byte("+-.015e "), 6, func(row []byte) {
		s := string(row)
		d, err := dec.Parse(s)
		if !number.MatchString(s) {
			if err != api.ErrForm || !zero(d) {
				t.Fatalf("Parse(%q): %+v, %v", s, d, err)
			}
			return
		}
		count++
		if err != api.OK || !d.Right() || value(written(d)).Cmp(value(s)) != 0 {
			t.Fatalf("Parse(%q): %+v, %v", s, d, err)
		}
		if d.Text() != written(d) {
			t.Fatalf("Text of %q: %q", s, d.Text())
		}
		if again, err := dec.Parse(d.Text()); err != api.OK || !same(again, d) {
			t.Fatalf("Parse(%q): %+v; not %+v, %v", d.Text(), again, d, err)
		}
	})
	if count < 1000 {
		t.Fatalf("only %d are numbers", count)
	}
}

func TestP502ParseTable(t *testing.T) {
	for s, want := range map[string]string{
		"0": "0", "-0": "0", "+0": "0", "00": "0", "-00.00": "0", ".0": "0", "-.0": "0", "0.": "0",
		"7": "7", "+7": "7", "-7": "-7", "007": "7", "700": "700", "7.": "7", "-7.": "-7",
		".5": "0.5", "-.5": "-0.5", "+.50": "0.5", "0.05": "0.05", "00.050": "0.05",
		"10.010": "10.01", "100.00": "100", "1234567890.0987654321": "1234567890.0987654321",
		"-18446744073709551616": "-18446744073709551616",
	} {
		if got := num(t, s).Text(); got != want {
			t.Errorf("Text of %q: %q; want %q", s, got, want)
		}
	}
	for _, s := range []string{
		"", "+", "-", ".", "+.", "-.", "--1", "+-1", "1-", "1+", "-+1", "..", "1..", "..1", "1.2.3", ".1.", "1.-2", ".-2", ".+2",
		" 1", "1 ", "1 2", "\t1", "1\n", "\r", "1,5", "1_000", "1e3", "1E3", "0x1", "INF", "-INF", "NaN", "one", "1\x00", "\x00",
		"\u0661", "1\u0662", "\uff11", "\u22121", "1\u00a0", "\ufeff1", "\xff", "1.\xb2", "/", ":", "1/2", "1:2",
	} {
		if d, err := dec.Parse(s); err != api.ErrForm || !zero(d) {
			t.Errorf("Parse(%q): %+v, %v", s, d, err)
		}
	}
}

// TestP502ParseEachByte: in a number's midst a digit and a point are taken, and
// no other byte.
func TestP502ParseEachByte(t *testing.T) {
	for c := range 256 {
		want := api.ErrForm
		if c >= '0' && c <= '9' || c == '.' {
			want = api.OK
		}
		if _, err := dec.Parse("1" + string([]byte{byte(c)}) + "2"); err != want {
			t.Errorf("1, the byte %d, 2: %v", c, err)
		}
	}
}

func TestP502ParseAtTheBound(t *testing.T) {
	nines := strings.Repeat("9", api.MaxToken+1)
	noughts := strings.Repeat("0", api.MaxToken+1)
	for _, c := range []struct {
		s      string // with one more digit it is too long
		digits int
		scale  int
	}{
		{nines[:api.MaxToken], api.MaxToken, 0},
		{"-" + nines[:api.MaxToken-1], api.MaxToken - 1, 0},
		{"+." + nines[:api.MaxToken-2], api.MaxToken - 1, api.MaxToken - 2},
		{"." + nines[:api.MaxToken-1], api.MaxToken, api.MaxToken - 1},
		{"1." + nines[:api.MaxToken-2], api.MaxToken - 1, api.MaxToken - 2},
		{noughts[:api.MaxToken], 1, 0},
		{"." + noughts[:api.MaxToken-1], 1, 0},
		{"." + noughts[:api.MaxToken-2] + "1", api.MaxToken, api.MaxToken - 1},
		{noughts[:api.MaxToken-1] + "1", 1, 0},
		{"1" + noughts[:api.MaxToken-1], api.MaxToken, 0},
	} {
		d := num(t, c.s)
		if len(d.Digits) != c.digits || d.Scale != c.scale {
			t.Errorf("%.10q..: %d digits, %d behind the point", c.s, len(d.Digits), d.Scale)
		}
		if value(d.Text()).Cmp(value(c.s)) != 0 {
			t.Errorf("%.10q..: another number", c.s)
		}
		if d, err := dec.Parse(c.s + "0"); err != api.ErrMany || !zero(d) {
			t.Errorf("%.10q.. and one more: %v", c.s, err)
		}
		if d, err := dec.Parse(c.s[1:] + "x"); err != api.ErrForm || !zero(d) {
			t.Errorf("%.10q.. and a letter: %v", c.s[1:], err)
		}
	}
	// What is too long is so, whatever it is.
	for _, s := range []string{strings.Repeat("x", api.MaxToken+1), strings.Repeat(" ", api.MaxToken+1), noughts, nines + nines, "--" + nines} {
		if d, err := dec.Parse(s); err != api.ErrMany || !zero(d) {
			t.Errorf("%.10q..: %v", s, err)
		}
	}
}

func TestP502Counts(t *testing.T) {
	for _, c := range []struct {
		s               string
		total, fraction int
	}{
		{"0", 1, 0}, {"-0.00", 1, 0}, {"5", 1, 0}, {"-5", 1, 0}, {"10", 2, 0}, {"100.0", 3, 0},
		{"0.5", 1, 1}, {"-0.5", 1, 1}, {".05", 2, 2}, {"0.050", 2, 2}, {"0.505", 3, 3}, {"0.001", 3, 3},
		{"1.5", 2, 1}, {"10.5", 3, 1}, {"1.05", 3, 2}, {"0012.3400", 4, 2}, {"-1000.0001", 8, 4},
		{"." + strings.Repeat("1", api.MaxToken-1), api.MaxToken - 1, api.MaxToken - 1},
		{strings.Repeat("1", api.MaxToken), api.MaxToken, 0},
	} {
		d := num(t, c.s)
		if d.Total() != c.total || d.Fraction() != c.fraction || d.Whole() != (c.fraction == 0) {
			t.Errorf("%.20q: %d, %d, %v", c.s, d.Total(), d.Fraction(), d.Whole())
		}
	}
}

func TestP502Neg(t *testing.T) {
	for s, want := range map[string]string{"0": "0", "-0": "0", "1": "-1", "-1": "1", "0.5": "-0.5", "-0.05": "0.05", "100": "-100", "-12.25": "12.25"} {
		d := dec.Neg(num(t, s))
		if !d.Right() || d.Text() != want {
			t.Errorf("Neg of %s: %+v", s, d)
		}
		if !same(dec.Neg(d), num(t, s)) {
			t.Errorf("Neg of Neg of %s: %+v", s, dec.Neg(d))
		}
	}
}

func TestP502Int(t *testing.T) {
	list := []int{math.MinInt, math.MinInt + 1, math.MaxInt, math.MaxInt - 1, math.MinInt32, math.MaxInt32, 1 << 53}
	for n := -1100; n <= 1100; n++ {
		list = append(list, n)
	}
	for p := 1; p < math.MaxInt/10; p *= 10 {
		list = append(list, p-1, p, p+1, -p, 1-p, -1-p)
	}
	for _, n := range list {
		d := dec.Int(n)
		if !d.Right() || !d.Whole() || d.Text() != strconv.Itoa(n) {
			t.Errorf("Int(%d): %+v", n, d)
		}
	}
}

package kind_test

import (
	"math/big"
	"math/rand"
	"reflect"
	"regexp"
	"strings"
	"testing"

	"rubric/api"
	"rubric/date"
	"rubric/dec"
	"rubric/kind"
)

// val is the value of a text that must be one.
func val(t *testing.T, k int, s string) kind.Value {
	t.Helper()
	v, err := kind.Parse(k, s)
	if err != api.OK {
		t.Fatalf("Parse(%s, %.40q): %v", kind.Name(k), s, err)
	}
	return v
}

// refused tells whether Parse answers ErrForm, with nothing beside it.
func refused(k int, s string) bool {
	v, err := kind.Parse(k, s)
	return err == api.ErrForm && reflect.DeepEqual(v, kind.Value{})
}

// num is the number of a text that must be one.
func num(s string) dec.Dec {
	d, err := dec.Parse(s)
	if err != api.OK {
		panic(s)
	}
	return d
}

// texts tells each text of at most n of those letters.
func texts(letters []string, n int, tell func(string)) {
	var longer func(s string, n int)
	longer = func(s string, n int) {
		tell(s)
		if n == 0 {
			return
		}
		for _, c := range letters {
			longer(s+c, n-1)
		}
	}
	longer("", n)
}

// of answers the numbers from one kind to another.
func of(from, to int) []int {
	var out []int
	for k := from; k <= to; k++ {
		out = append(out, k)
	}
	return out
}

// TestP1102Fields: each Prim's own field is said, the others are zero.
func TestP1102Fields(t *testing.T) {
	for _, c := range []struct {
		k    int
		s    string
		want kind.Value
	}{
		{kind.String, " a\t\r\n b  ", kind.Value{Prim: kind.String, Text: " a\t\r\n b  "}},
		{kind.String, "", kind.Value{Prim: kind.String}},
		{kind.NormalizedString, " a\t\r\n b  ", kind.Value{Prim: kind.String, Text: " a    b  "}},
		{kind.NormalizedString, "\n", kind.Value{Prim: kind.String, Text: " "}},
		{kind.Token, " a\t\r\n b  ", kind.Value{Prim: kind.String, Text: "a b"}},
		{kind.Token, " \t ", kind.Value{Prim: kind.String}},
		{kind.NMToken, "\t1-a:.\n", kind.Value{Prim: kind.String, Text: "1-a:."}},
		{kind.NameKind, " a:b:1 ", kind.Value{Prim: kind.String, Text: "a:b:1"}},
		{kind.NCName, "\r_1 ", kind.Value{Prim: kind.String, Text: "_1"}},
		{kind.ID, " é ", kind.Value{Prim: kind.String, Text: "é"}},
		{kind.IDRef, " x.y\n", kind.Value{Prim: kind.String, Text: "x.y"}},
		{kind.Boolean, " true", kind.Value{Prim: kind.Boolean, Text: "true"}},
		{kind.Boolean, "1\n", kind.Value{Prim: kind.Boolean, Text: "true"}},
		{kind.Boolean, "\tfalse ", kind.Value{Prim: kind.Boolean, Text: "false"}},
		{kind.Boolean, "0", kind.Value{Prim: kind.Boolean, Text: "false"}},
		{kind.Decimal, " -01.50\n", kind.Value{Prim: kind.Decimal, Num: dec.Dec{Neg: true, Digits: []byte{1, 5}, Scale: 1}}},
		{kind.Integer, "+007", kind.Value{Prim: kind.Decimal, Num: dec.Dec{Digits: []byte{7}}}},
		{kind.NonNegative, "-0", kind.Value{Prim: kind.Decimal, Num: dec.Dec{Digits: []byte{0}}}},
		{kind.Byte, "\t-128 ", kind.Value{Prim: kind.Decimal, Num: dec.Dec{Neg: true, Digits: []byte{1, 2, 8}}}},
		{kind.DateTime, " 2001-02-03T04:05:06.7-08:00 ", kind.Value{Prim: kind.DateTime, When: date.Moment{Kind: date.DateTime, Year: 2001, Month: 2, Day: 3, Sec: 4*3600 + 5*60 + 6, Nano: 700000000, HasZone: true, Zone: -480}}},
		{kind.Date, "-0001-02-29", kind.Value{Prim: kind.Date, When: date.Moment{Kind: date.Date, Year: -1, Month: 2, Day: 29}}},
		{kind.Time, "24:00:00Z\n", kind.Value{Prim: kind.Time, When: date.Moment{Kind: date.Time, Year: 2000, Month: 1, Day: 1, HasZone: true}}},
		{kind.YearMonth, "1999-12", kind.Value{Prim: kind.YearMonth, When: date.Moment{Kind: date.YearMonth, Year: 1999, Month: 12, Day: 1}}},
		{kind.Year, "12345", kind.Value{Prim: kind.Year, When: date.Moment{Kind: date.Year, Year: 12345, Month: 1, Day: 1}}},
		{kind.MonthDay, "--02-29", kind.Value{Prim: kind.MonthDay, When: date.Moment{Kind: date.MonthDay, Year: 2000, Month: 2, Day: 29}}},
		{kind.Day, "---31+14:00", kind.Value{Prim: kind.Day, When: date.Moment{Kind: date.Day, Year: 2000, Month: 1, Day: 31, HasZone: true, Zone: 840}}},
		{kind.Month, "--05", kind.Value{Prim: kind.Month, When: date.Moment{Kind: date.Month, Year: 2000, Month: 5, Day: 1}}},
		{kind.Duration, " -P1Y1DT1.5S ", kind.Value{Prim: kind.Duration, Span: date.Span{Months: -12, Sec: -86401, Nano: -500000000}}},
	} {
		if v, err := kind.Parse(c.k, c.s); err != api.OK || !reflect.DeepEqual(v, c.want) {
			t.Errorf("Parse(%s, %q): %+v, %v", kind.Name(c.k), c.s, v, err)
		}
	}
}

// TestP1102AnyText: string, normalizedString and token take all texts, letters
// that are none too.
func TestP1102AnyText(t *testing.T) {
	list := []string{"a:b", "1 a", "\x00", "\xff\xfe", "\u00a0", "a\u2003b", "<&>", "true", "\ud7ff\U0010ffff", strings.Repeat("a", 1<<17)}
	for _, k := range []int{kind.String, kind.NormalizedString, kind.Token} {
		for _, s := range list {
			if v := val(t, k, s); v.Text != s {
				t.Errorf("Parse(%s, %q): %q", kind.Name(k), s, v.Text)
			}
		}
	}
}

// The names of string's kinds, as regular expressions over a text that is put.
var nameTexts = map[int]*regexp.Regexp{
	kind.NMToken:  regexp.MustCompile(`^[A-Za-z_:é0-9.·-]+$`),
	kind.NameKind: regexp.MustCompile(`^[A-Za-z_:é][A-Za-z_:é0-9.·-]*$`),
	kind.NCName:   regexp.MustCompile(`^[A-Za-z_é][A-Za-z_é0-9.·-]*$`),
	kind.ID:       regexp.MustCompile(`^[A-Za-z_é][A-Za-z_é0-9.·-]*$`),
	kind.IDRef:    regexp.MustCompile(`^[A-Za-z_é][A-Za-z_é0-9.·-]*$`),
}

// TestP1102Names: each short text, by the grammar of its kind.
func TestP1102Names(t *testing.T) {
	taken := map[int]int{}
	texts([]string{"a", "Z", "_", ":", "é", "1", "-", ".", "·", "×", " ", "\n", "\xff", "\x00", "\u00a0"}, 4, func(s string) {
		put := strings.Trim(s, " \n")
		for k, form := range nameTexts {
			v, err := kind.Parse(k, s)
			if !form.MatchString(put) {
				if err != api.ErrForm || v.Text != "" || v.Prim != 0 {
					t.Fatalf("Parse(%s, %q): %+v, %v", kind.Name(k), s, v, err)
				}
				continue
			}
			taken[k]++
			if err != api.OK || v.Prim != kind.String || v.Text != put {
				t.Fatalf("Parse(%s, %q): %+v, %v", kind.Name(k), s, v, err)
			}
		}
	})
	if taken[kind.NMToken] <= taken[kind.NameKind] || taken[kind.NameKind] <= taken[kind.NCName] || taken[kind.NCName] < 1000 || taken[kind.ID] != taken[kind.NCName] || taken[kind.IDRef] != taken[kind.NCName] {
		t.Errorf("taken: %v", taken)
	}
}

func TestP1102Booleans(t *testing.T) {
	for _, s := range []string{"", " ", "TRUE", "True", "tru", "truee", "t", "yes", "no", "FALSE", "False", "fals", "01", "00", "11", "10", "+1", "-0", "1.0", "0.0", "tr ue", "true false", "1 1", "2", "-1", "true\x00", "\u00a0true"} {
		if !refused(kind.Boolean, s) {
			t.Errorf("Parse(boolean, %q)", s)
		}
	}
	texts([]string{"0", "1", " ", "t", "+"}, 3, func(s string) {
		want := map[string]string{"1": "true", "0": "false"}[strings.Trim(s, " ")]
		v, err := kind.Parse(kind.Boolean, s)
		if (err == api.OK) != (want != "") || v.Text != want || want == "" && err != api.ErrForm {
			t.Errorf("Parse(boolean, %q): %+v, %v", s, v, err)
		}
	})
}

// power is 2^n, and so much more.
func power(n uint, more int64) *big.Int {
	out := new(big.Int).Lsh(big.NewInt(1), n)
	return out.Add(out, big.NewInt(more))
}

func minus(n *big.Int) *big.Int { return new(big.Int).Neg(n) }

// bound is an integer kind's least and greatest number, nil where there is none.
type bound struct{ least, most *big.Int }

func bounds() map[int]bound {
	return map[int]bound{
		kind.Integer:       {},
		kind.NonPositive:   {nil, big.NewInt(0)},
		kind.Negative:      {nil, big.NewInt(-1)},
		kind.NonNegative:   {big.NewInt(0), nil},
		kind.Positive:      {big.NewInt(1), nil},
		kind.Long:          {minus(power(63, 0)), power(63, -1)},
		kind.Int:           {minus(power(31, 0)), power(31, -1)},
		kind.Short:         {minus(power(15, 0)), power(15, -1)},
		kind.Byte:          {minus(power(7, 0)), power(7, -1)},
		kind.UnsignedLong:  {big.NewInt(0), power(64, -1)},
		kind.UnsignedInt:   {big.NewInt(0), power(32, -1)},
		kind.UnsignedShort: {big.NewInt(0), power(16, -1)},
		kind.UnsignedByte:  {big.NewInt(0), power(8, -1)},
	}
}

func (b bound) has(n *big.Int) bool {
	return (b.least == nil || n.Cmp(b.least) >= 0) && (b.most == nil || n.Cmp(b.most) <= 0)
}

// TestP1102Bounds: at each power of 2, and beside it, every kind takes just what
// is within its bounds, however it is written.
func TestP1102Bounds(t *testing.T) {
	var list []*big.Int
	for n := range uint(70) {
		for more := int64(-2); more <= 2; more++ {
			list = append(list, power(n, more), minus(power(n, more)))
		}
	}
	for _, n := range []uint{127, 128, 1000, 10000} {
		list = append(list, power(n, 0), minus(power(n, 0)))
	}
	r := rand.New(rand.NewSource(11))
	for range 2000 {
		n := new(big.Int).Rand(r, power(uint(1+r.Intn(70)), 0))
		list = append(list, n, minus(n))
	}
	for k, b := range bounds() {
		taken := 0
		for _, n := range list {
			want := n.String()
			forms := []string{want, " " + want + "\n", want[:len(want)-len(strings.TrimLeft(want, "-"))] + "000" + strings.TrimLeft(want, "-")}
			if n.Sign() >= 0 {
				forms = append(forms, "+"+want)
			}
			if n.Sign() == 0 {
				forms = append(forms, "-0", "-00")
			}
			for _, s := range forms {
				if !b.has(n) {
					if !refused(k, s) {
						t.Fatalf("Parse(%s, %q) is taken", kind.Name(k), s)
					}
					continue
				}
				taken++
				v := val(t, k, s)
				if v.Prim != kind.Decimal || v.Num.Text() != want || !v.Num.Right() {
					t.Fatalf("Parse(%s, %q): %+v", kind.Name(k), s, v)
				}
			}
		}
		if taken < 100 {
			t.Errorf("%s: only %d are taken", kind.Name(k), taken)
		}
	}
}

// TestP1102BoundsTable: the bounds as they are written.
func TestP1102BoundsTable(t *testing.T) {
	for k, c := range map[int][4]string{
		kind.Long:          {"-9223372036854775808", "9223372036854775807", "-9223372036854775809", "9223372036854775808"},
		kind.Int:           {"-2147483648", "2147483647", "-2147483649", "2147483648"},
		kind.Short:         {"-32768", "32767", "-32769", "32768"},
		kind.Byte:          {"-128", "127", "-129", "128"},
		kind.UnsignedLong:  {"0", "18446744073709551615", "-1", "18446744073709551616"},
		kind.UnsignedInt:   {"0", "4294967295", "-1", "4294967296"},
		kind.UnsignedShort: {"0", "65535", "-1", "65536"},
		kind.UnsignedByte:  {"0", "255", "-1", "256"},
	} {
		for _, s := range c[:2] {
			if v := val(t, k, s); v.Num.Text() != s {
				t.Errorf("Parse(%s, %q): %+v", kind.Name(k), s, v)
			}
		}
		for _, s := range c[2:] {
			if !refused(k, s) {
				t.Errorf("Parse(%s, %q) is taken", kind.Name(k), s)
			}
		}
	}
}

var (
	decimalText = regexp.MustCompile(`^[+-]?([0-9]+(\.[0-9]*)?|\.[0-9]+)$`)
	integerText = regexp.MustCompile(`^[+-]?[0-9]+$`)
)

// TestP1102NumberTexts: each short text; integers are written without a point,
// even if nothing or noughts stand behind it.
func TestP1102NumberTexts(t *testing.T) {
	count := 0
	limits := bounds()
	texts([]string{"0", "1", "9", "+", "-", ".", " ", "_", "e"}, 5, func(s string) {
		put := strings.Trim(s, " ")
		if right := decimalText.MatchString(put); right == refused(kind.Decimal, s) {
			t.Fatalf("Parse(decimal, %q): %v", s, !right)
		} else if right {
			count++
			if v := val(t, kind.Decimal, s); !reflect.DeepEqual(v, kind.Value{Prim: kind.Decimal, Num: num(put)}) {
				t.Fatalf("Parse(decimal, %q): %+v", s, v)
			}
		}
		n, _ := new(big.Int).SetString(put, 10)
		for k, b := range limits {
			right := integerText.MatchString(put) && b.has(n)
			if right == refused(k, s) {
				t.Fatalf("Parse(%s, %q): %v", kind.Name(k), s, !right)
			}
		}
	})
	if count < 500 {
		t.Errorf("only %d are numbers", count)
	}
	for k := range limits {
		for _, s := range []string{"1.", "1.0", "-1.", "-1.0", ".0", "0.", "0.0", "+0.", "1.5", "."} {
			if !refused(k, s) {
				t.Errorf("Parse(%s, %q) is taken", kind.Name(k), s)
			}
		}
	}
	for k := kind.Decimal; k <= kind.UnsignedByte; k++ {
		for _, s := range []string{"", " ", "1 2", "1e1", "1E1", "0x1", "1_0", "1,0", "INF", "NaN", "--1", "+-1", "- 1", "1-", "\u0661", "1\x00", "\u00a01"} {
			if !refused(k, s) {
				t.Errorf("Parse(%s, %q) is taken", kind.Name(k), s)
			}
		}
	}
}

// TestP1102LongNumbers: dec takes texts of MaxToken bytes, blanks about them not
// counted; of longer ones its ErrMany is ErrForm.
func TestP1102LongNumbers(t *testing.T) {
	noughts, nines := strings.Repeat("0", api.MaxToken-1), strings.Repeat("9", api.MaxToken)
	blanks := strings.Repeat(" \n", api.MaxToken)
	for k := kind.Decimal; k <= kind.UnsignedByte; k++ {
		digit := "1"
		if k == kind.NonPositive {
			digit = "0"
		}
		if k == kind.Negative {
			if !refused(k, "-"+noughts+"1") || val(t, k, "-"+noughts[1:]+"1").Num.Text() != "-1" {
				t.Errorf("%s", kind.Name(k))
			}
			continue
		}
		if v := val(t, k, blanks+noughts+digit+blanks); v.Num.Text() != digit {
			t.Errorf("Parse(%s) of %d bytes: %+v", kind.Name(k), api.MaxToken, v)
		}
		if !refused(k, "0"+noughts+digit) || !refused(k, blanks+"0"+noughts+digit+blanks) {
			t.Errorf("Parse(%s) of %d bytes is taken", kind.Name(k), api.MaxToken+1)
		}
	}
	for k := kind.Decimal; k <= kind.UnsignedByte; k++ {
		_, err := kind.Parse(k, nines)
		want := api.ErrForm
		switch k {
		case kind.Decimal, kind.Integer, kind.NonNegative, kind.Positive:
			want = api.OK
		}
		if err != want || !refused(k, nines+"9") {
			t.Errorf("Parse(%s) of nines: %v", kind.Name(k), err)
		}
	}
}

// timeTexts are such as some kind of times or spans takes, and such as none does.
var timeTexts = []string{
	"2001-02-03T04:05:06", "2001-02-03T04:05:06.789Z", "2001-02-03T24:00:00", "-0044-03-15T00:00:00+14:00", "2001-02-29T00:00:00", "2001-02-03T24:00:01", "2001-02-03 04:05:06",
	"2001-02-03", "2000-02-29-13:59", "2001-02-30", "0000-01-01", "2001-2-3", "02001-02-03", "999999999-12-31",
	"04:05:06", "24:00:00", "23:59:59.999999999Z", "24:00:00.1", "4:05:06", "04:05", "04:05:06+14:01",
	"2001-02", "2001-13", "-2001-12Z", "2001", "12345", "01234", "-0001", "201", "2001Z",
	"--02-29", "--02-30", "--12-31Z", "---31", "---32", "---01+01:00", "--12", "--13", "--05Z", "--05--",
	"P1Y", "-P1Y2M3DT4H5M6.7S", "P", "PT", "P1S", "-PT0S", "P1YT", "PT1.5S", "p1Y", "+P1Y", "P1234567890Y",
	"", "Z", "-", "2001-02-03T04:05:06Z Z", "today", "\xff", "1", "2001\x00",
}

// TestP1102Times: each text by each kind, as date reads it once it is put.
func TestP1102Times(t *testing.T) {
	taken := map[int]int{}
	for _, s := range timeTexts {
		for _, k := range of(kind.DateTime, kind.Month) {
			want := kind.Value{Prim: k}
			var err api.Errno
			want.When, err = date.Parse(map[int]int{kind.DateTime: date.DateTime, kind.Date: date.Date, kind.Time: date.Time, kind.YearMonth: date.YearMonth, kind.Year: date.Year, kind.MonthDay: date.MonthDay, kind.Day: date.Day, kind.Month: date.Month}[k], s)
			taken[k] += checkTime(t, k, s, want, err)
		}
		want := kind.Value{Prim: kind.Duration}
		var err api.Errno
		want.Span, err = date.ParseSpan(s)
		taken[kind.Duration] += checkTime(t, kind.Duration, s, want, err)
	}
	for k := kind.DateTime; k <= kind.Duration; k++ {
		if taken[k] < 2 {
			t.Errorf("%s: %d texts are taken", kind.Name(k), taken[k])
		}
	}
}

// checkTime asks for s, for s with blanks about it, and with one in its midst;
// it answers 1, if s is taken.
func checkTime(t *testing.T, k int, s string, want kind.Value, err api.Errno) int {
	t.Helper()
	for _, put := range []string{s, " \t" + s + "\r\n"} {
		if err != api.OK && !refused(k, put) {
			t.Errorf("Parse(%s, %q) is taken", kind.Name(k), put)
		}
		if err != api.OK {
			continue
		}
		if v := val(t, k, put); !reflect.DeepEqual(v, want) {
			t.Errorf("Parse(%s, %q): %+v", kind.Name(k), put, v)
		}
	}
	for i := 1; i < len(s); i++ {
		if !refused(k, s[:i]+" "+s[i:]) {
			t.Errorf("Parse(%s, %q) is taken", kind.Name(k), s[:i]+" "+s[i:])
		}
	}
	if err != api.OK {
		return 0
	}
	return 1
}

func TestP1102NoKind(t *testing.T) {
	for _, k := range noKinds {
		for _, s := range []string{"", "a", "1", "true", "2001-01-01", "P1Y", "\xff"} {
			if v, err := kind.Parse(k, s); err != api.ErrArg || !reflect.DeepEqual(v, kind.Value{}) {
				t.Errorf("Parse(%d, %q): %+v, %v", k, s, v, err)
			}
		}
	}
}

// TestP1102DerivedTakesLess: whatever a kind takes once it is put, its base takes,
// as the same value.
func TestP1102DerivedTakesLess(t *testing.T) {
	list := append([]string{"a", "a:b", "1a", "a b", "_", "0", "-0", "1", "-1", "127", "128", "255", "256", "-128", "-129", "32767", "65535", "65536", "2147483648", "4294967296", "9223372036854775807", "18446744073709551615", "18446744073709551616", "1.5", "true"}, timeTexts...)
	for k := 1; k <= kind.Duration; k++ {
		taken := 0
		for _, s := range list {
			v, err := kind.Parse(k, s)
			if err != api.OK {
				continue
			}
			taken++
			for up := kind.Base(k); up != 0; up = kind.Base(up) {
				if w := val(t, up, s); !reflect.DeepEqual(v, w) {
					t.Errorf("%q as %s: %+v; as %s: %+v", s, kind.Name(k), v, kind.Name(up), w)
				}
			}
		}
		if taken == 0 {
			t.Errorf("%s takes nothing", kind.Name(k))
		}
	}
}

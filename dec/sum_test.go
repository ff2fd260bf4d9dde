package dec_test

import (
	"math/rand"
	"slices"
	"strings"
	"testing"

	"rubric/api"
	"rubric/dec"
)

// texts are canonical numbers near to one another: of up to four digits, with
// the point in each place.
func texts() []string {
	var out []string
	rows([]byte("059.-"), 5, func(row []byte) {
		if s := string(row); canonical.MatchString(s) && s != "-0" {
			out = append(out, s)
		}
	})
	return out
}

// check holds Add and Cmp of two texts against the library's numbers.
func check(t *testing.T, a, b string) {
	t.Helper()
	x, y := num(t, a), num(t, b)
	p, q := value(a), value(b)
	if got := dec.Cmp(x, y); got != p.Cmp(q) {
		t.Fatalf("Cmp(%.80s, %.80s): %d", a, b, got)
	}
	sum, err := dec.Add(x, y)
	if err != api.OK || !sum.Right() {
		t.Fatalf("Add(%.80s, %.80s): %v, %v", a, b, sum, err)
	}
	if value(sum.Text()).Cmp(p.Add(p, q)) != 0 {
		t.Fatalf("Add(%.80s, %.80s): %s", a, b, sum.Text())
	}
}

// TestP502SumsOfSmall: each with each.
func TestP502SumsOfSmall(t *testing.T) {
	list := texts()
	if len(list) < 200 {
		t.Fatalf("only %d texts", len(list))
	}
	for _, a := range list {
		for _, b := range list {
			check(t, a, b)
		}
	}
}

// some is a random canonical text with long rows of one digit, so that carries
// go far.
func some(r *rand.Rand, most int) string {
	row := func(n int) string {
		var out string
		for len(out) < n {
			out += strings.Repeat(string("00099951"[r.Intn(8)]), 1+r.Intn(n))
		}
		return out[:n]
	}
	s := row(1 + r.Intn(most))
	if r.Intn(2) == 0 {
		s += "." + row(1+r.Intn(most))
	}
	if r.Intn(2) == 0 {
		s = "-" + s
	}
	return s
}

func TestP502SumsOfLong(t *testing.T) {
	r := rand.New(rand.NewSource(5))
	for range 4000 {
		check(t, some(r, 40), some(r, 40))
	}
	for range 40 {
		check(t, some(r, 2000), some(r, 2000))
	}
}

// TestP502SumsGoBack: what was added is taken away again, whatever way around.
func TestP502SumsGoBack(t *testing.T) {
	r := rand.New(rand.NewSource(6))
	for range 2000 {
		a, b := num(t, some(r, 60)), num(t, some(r, 60))
		sum, _ := dec.Add(a, b)
		turned, _ := dec.Add(b, a)
		back, err := dec.Add(sum, dec.Neg(b))
		if err != api.OK || !same(back, a) || !same(sum, turned) {
			t.Fatalf("%s and %s: %s, %s, less the second: %s", a.Text(), b.Text(), sum.Text(), turned.Text(), back.Text())
		}
		if none, err := dec.Add(a, dec.Neg(a)); err != api.OK || !same(none, dec.Int(0)) {
			t.Fatalf("%s less itself: %+v", a.Text(), none)
		}
	}
}

func TestP502SumsTable(t *testing.T) {
	for _, c := range [][3]string{
		{"0", "0", "0"}, {"0", "-7.5", "-7.5"}, {"7.5", "0", "7.5"}, {"-7.5", "7.5", "0"},
		{"999", "1", "1000"}, {"-999", "-1", "-1000"}, {"9.99", "0.01", "10"}, {"-0.95", "-0.05", "-1"},
		{"1000", "-1", "999"}, {"1000", "-0.001", "999.999"}, {"-1000", "999.999", "-0.001"},
		{"1", "-1.001", "-0.001"}, {"0.1", "-0.09", "0.01"}, {"1.5", "1.5", "3"}, {"12.34", "0.66", "13"},
		{"99.9", "-99.8", "0.1"}, {"5", "5", "10"}, {"0.5", "0.05", "0.55"}, {"100", "0.01", "100.01"},
	} {
		for range 2 {
			d, err := dec.Add(num(t, c[0]), num(t, c[1]))
			if err != api.OK || !d.Right() || d.Text() != c[2] {
				t.Errorf("Add(%s, %s): %q, %v; want %s", c[0], c[1], d.Text(), err, c[2])
			}
			c[0], c[1] = c[1], c[0]
		}
	}
}

// TestP502SumsAtTheBound: the canonical sum's digits count, not how many the two
// numbers have with one above the other.
func TestP502SumsAtTheBound(t *testing.T) {
	row := func(c string, less int) string { return strings.Repeat(c, api.MaxToken-less) }
	for _, c := range []struct {
		a, b string
		want string // nothing: ErrMany
	}{
		{row("9", 0), "0", row("9", 0)},
		{row("9", 0), "1", ""},
		{row("9", 0), row("9", 0), ""},
		{row("9", 1), "1", "1" + row("0", 1)},
		{row("9", 1) + "8", "1", row("9", 0)},
		{row("9", 0), "-1", row("9", 1) + "8"},
		{row("9", 0), "-" + row("9", 0), "0"},
		{row("9", 0), "0.1", ""},
		{row("9", 0), "-0.1", ""},
		{row("9", 1), "0.1", row("9", 1) + ".1"},
		{row("9", 1), "0.01", ""},
		{"1" + row("0", 1), "-0.1", row("9", 1) + ".9"},
		{"1" + row("0", 1), "-0.01", ""},
		{"1" + row("0", 1), "0.1", ""},
		{"." + row("9", 1), "." + row("0", 2) + "1", "1"},
		{"." + row("5", 1), "." + row("5", 1), "1." + row("1", 2) + "0"},
		{"." + row("5", 1), "9", "9." + row("5", 1)},
		{"." + row("5", 1), "10", ""},
		{"." + row("5", 1), "-10", "-9." + row("4", 2) + "5"},
		{"." + row("5", 1), "-11", ""},
		{"." + row("5", 1), row("5", 0), ""},
		{"." + row("9", 1), "9", "9." + row("9", 1)},
	} {
		want := api.ErrMany
		if c.want != "" {
			want = api.OK
		}
		a, b := signed(t, c.a), signed(t, c.b)
		for i := range 4 {
			d, err := dec.Add(a, b)
			if err != want || err == api.OK && !d.Right() || err != api.OK && !zero(d) {
				t.Errorf("Add(%.8s.., %.8s..): %d digits, %v", a.Text(), b.Text(), len(d.Digits), err)
			} else if err == api.OK && value(d.Text()).Cmp(value(turn(c.want, i >= 2))) != 0 {
				t.Errorf("Add(%.8s.., %.8s..): %.20s..", a.Text(), b.Text(), d.Text())
			}
			a, b = b, a
			if i == 1 {
				a, b = dec.Neg(a), dec.Neg(b)
			}
		}
	}
}

// signed is the number of a text whose sign may stand ahead of as many digits as
// there may be.
func signed(t *testing.T, s string) dec.Dec {
	if strings.HasPrefix(s, "-") {
		return dec.Neg(num(t, s[1:]))
	}
	return num(t, s)
}

// turn is a text with the other sign, if it shall have it.
func turn(s string, other bool) string {
	if !other {
		return s
	}
	if strings.HasPrefix(s, "-") {
		return s[1:]
	}
	return "-" + s
}

func TestP502CmpTable(t *testing.T) {
	list := []string{
		"-" + strings.Repeat("9", api.MaxToken-1), "-1000", "-999.9", "-10", "-9.99", "-9.9", "-1", "-0.95", "-0.9", "-0.11", "-0.1", "-0.01",
		"0", "0.001", "0.009", "0.01", "0.011", "0.09", "0.1", "0.9", "0.95", "1", "1.001", "1.01", "2", "9.9", "9.99", "10", "10.5", "11", "99", "100", "999.9", "1000",
		strings.Repeat("9", api.MaxToken-1), "1" + strings.Repeat("0", api.MaxToken-1), strings.Repeat("9", api.MaxToken),
	}
	for i, a := range list {
		for k, b := range list {
			if got, want := dec.Cmp(num(t, a), num(t, b)), min(max(i-k, -1), 1); got != want {
				t.Errorf("Cmp(%.20s, %.20s): %d", a, b, got)
			}
		}
	}
	for _, l := range [][]string{{"0", "-0", "+0.0", ".0", "00."}, {"1.5", "+1.50", "01.5"}, {"-10", "-10.0", "-010."}} {
		for _, s := range l {
			if got := dec.Cmp(num(t, l[0]), num(t, s)); got != 0 {
				t.Errorf("Cmp(%s, %s): %d", l[0], s, got)
			}
		}
	}
	sorted := texts()
	slices.SortFunc(sorted, func(a, b string) int { return value(a).Cmp(value(b)) })
	if !slices.IsSortedFunc(sorted, func(a, b string) int { return dec.Cmp(num(t, a), num(t, b)) }) {
		t.Error("Cmp has another order")
	}
}

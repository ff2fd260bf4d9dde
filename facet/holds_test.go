package facet_test

import (
	"math/rand"
	"reflect"
	"slices"
	"strconv"
	"strings"
	"testing"

	"rubric/api"
	"rubric/char"
	"rubric/date"
	"rubric/facet"
	"rubric/kind"
	"rubric/nfa"
	"rubric/pat"
)

// values are the values of texts that must be such.
func values(t *testing.T, k int, l ...string) []kind.Value {
	t.Helper()
	var out []kind.Value
	for _, s := range l {
		v, err := kind.Parse(k, s)
		if err != api.OK {
			t.Fatalf("Parse(%s, %.40q): %v", kind.Name(k), s, err)
		}
		out = append(out, v)
	}
	return out
}

func TestP1203Table(t *testing.T) {
	for _, c := range []struct {
		k        int
		l        []string
		yes, not []string
	}{
		{kind.String, nil, []string{"", "a", "\n"}, nil},
		{kind.String, []string{"length:2"}, []string{"ab", "\u00e9\U0001F600", "a ", "  "}, []string{"", "a", "abc", "\u00e9"}},
		{kind.String, []string{"length:0"}, []string{""}, []string{" ", "a"}},
		{kind.String, []string{"minLength:2"}, []string{"ab", "abc"}, []string{"", "\u00e9"}},
		{kind.String, []string{"maxLength:2"}, []string{"", "a", "\u00e9\u00e9"}, []string{"abc"}},
		{kind.String, []string{"minLength:1", "maxLength:1"}, []string{"a", "\U0001F600"}, []string{"", "ab"}},
		{kind.String, []string{"maxLength:999999"}, []string{"", strings.Repeat("a", 999999)}, []string{strings.Repeat("a", 1000000)}},
		{kind.String, []string{"pattern:a*"}, []string{"", "a", "aaa"}, []string{"b", "ab", " a"}},
		{kind.String, []string{"pattern:"}, []string{""}, []string{"a"}},
		{kind.String, []string{"pattern:a", "pattern:b", "pattern:b"}, []string{"a", "b"}, []string{"", "ab", "c"}},
		{kind.String, []string{"pattern:a|b", "length:2", "enumeration:aa"}, nil, []string{"a", "aa", "b"}},
		{kind.String, []string{"enumeration:a", "enumeration:", "enumeration:b c"}, []string{"a", "", "b c"}, []string{"b", "a ", "A"}},
		{kind.Boolean, []string{"pattern:1|0"}, []string{"1", "0"}, []string{"true", "false"}},
		{kind.Int, []string{"maxInclusive:5"}, []string{"5", "-6", "+05"}, []string{"6", "10"}}, {kind.Int, []string{"maxExclusive:5"}, []string{"4", "-6"}, []string{"5", "6"}},
		{kind.Int, []string{"minInclusive:-5"}, []string{"-5", "6"}, []string{"-6", "-10"}}, {kind.Int, []string{"minExclusive:-5"}, []string{"-4", "6"}, []string{"-5", "-6"}},
		{kind.Int, []string{"minInclusive:1", "maxInclusive:1"}, []string{"1"}, []string{"0", "2"}},
		{kind.Int, []string{"minExclusive:1", "maxExclusive:2"}, nil, []string{"0", "1", "2", "3"}},
		{kind.Int, []string{"enumeration:+007", "enumeration:-0"}, []string{"7", "0"}, []string{"-7", "70"}},
		{kind.Decimal, []string{"totalDigits:2"}, []string{"0", "12", "-12", "1.2", "0012.00", "0.12", "0.05"}, []string{"123", "1.23", "0.123", "100"}},
		{kind.Decimal, []string{"fractionDigits:1"}, []string{"0", "12345", "1.5", "1.50", "-0.1"}, []string{"0.01", "1.25"}}, {kind.Decimal, []string{"fractionDigits:0"}, []string{"1", "1.0", "-10."}, []string{"0.5"}},
		{kind.Date, []string{"minInclusive:2000-01-02Z", "maxExclusive:2000-01-09Z"}, []string{"2000-01-02Z", "2000-01-05", "2000-01-08", "2000-01-03+14:00"}, []string{"2000-01-01Z", "2000-01-02", "2000-01-09Z", "2000-01-09", "2000-01-02+00:01"}},
		{kind.Date, []string{"enumeration:2000-01-02Z"}, []string{"2000-01-02Z", "2000-01-02-00:00"}, []string{"2000-01-02", "2000-01-03Z"}},
		{kind.Duration, []string{"maxInclusive:P1M"}, []string{"P27D", "P1M", "-P1Y"}, []string{"P28D", "P29D", "P30D", "P31D", "P32D"}}, {kind.Duration, []string{"minExclusive:P1M"}, []string{"P32D", "P1MT1S"}, []string{"P31D", "P1M", "P0D"}},
		{kind.NMToken, []string{"whiteSpace:collapse", "minLength:2"}, []string{"ab"}, []string{"a"}},
	} {
		check := compiled(t, c.k, false, c.l...)
		for n, l := range [][]string{c.not, c.yes} {
			for _, s := range l {
				if check.Holds(s, values(t, c.k, s)) != (n == 1) {
					t.Errorf("%s, %q: %.40q: %v", kind.Name(c.k), c.l, s, n == 0)
				}
			}
		}
	}
}

func TestP1203Lists(t *testing.T) {
	for _, c := range []struct {
		k        int
		l        []string
		yes, not []string
	}{
		{kind.String, nil, []string{"", "a", "a b"}, nil},
		{kind.String, []string{"length:2"}, []string{"a b", "abc d"}, []string{"", "ab", "a b c"}}, {kind.String, []string{"length:0"}, []string{""}, []string{"a"}},
		{kind.Date, []string{"minLength:1"}, []string{"2000-01-01", "2000-01-01 2000-01-01"}, []string{""}}, {kind.Int, []string{"maxLength:1"}, []string{"", "100"}, []string{"1 2"}},
		{kind.Int, []string{"pattern:1( \\d)*"}, []string{"1", "1 2 3"}, []string{"", "2", "1 22"}},
		{kind.Int, []string{"enumeration: 1\n02 ", "enumeration:7"}, []string{"1 2", "7", "01 2", "+7"}, []string{"", "1", "2 1", "1 2 3", "7 7", "12"}}, {kind.Int, []string{"enumeration: "}, []string{""}, []string{"0"}},
		{kind.Boolean, []string{"enumeration:true 0"}, []string{"1 false", "true 0"}, []string{"true", "0 1"}},
	} {
		check := compiled(t, c.k, true, c.l...)
		for n, l := range [][]string{c.not, c.yes} {
			for _, s := range l {
				if check.Holds(s, values(t, c.k, strings.Fields(s)...)) != (n == 1) {
					t.Errorf("lists of %s, %q: %q: %v", kind.Name(c.k), c.l, s, n == 0)
				}
			}
		}
	}
}

// TestP1203TextAndValues: patterns are asked of the text alone, all others of the
// values alone.
func TestP1203TextAndValues(t *testing.T) {
	ab := values(t, kind.String, "ab")
	if !compiled(t, kind.String, false, "pattern:x").Holds("x", ab) || compiled(t, kind.String, false, "pattern:ab").Holds("x", ab) {
		t.Error("pattern")
	}
	for _, l := range [][]string{{"length:2"}, {"enumeration:ab"}, {"minLength:2", "maxLength:2"}} {
		c := compiled(t, kind.String, false, l...)
		for _, text := range []string{"", "a", "ab", "abc", "\xff"} {
			if !c.Holds(text, ab) || c.Holds(text, values(t, kind.String, "abc")) {
				t.Errorf("%q: %q", l, text)
			}
		}
	}
	// No pattern matches what is no letters; a byte that begins none is one to a
	// length.
	wrong := values(t, kind.String, "\xff")
	if compiled(t, kind.String, false, "pattern:.").Holds("\xff", wrong) || !compiled(t, kind.String, false, "length:1").Holds("\xff", wrong) {
		t.Error("what is no letter")
	}
}

// TestP1203NotJustOne: of none or several values of a type that is no list's,
// lengths ask how many, and bounds and digits ask nothing.
func TestP1203NotJustOne(t *testing.T) {
	two := values(t, kind.Decimal, "100.25", "-100.25")
	for _, l := range [][]string{{"maxInclusive:1"}, {"maxExclusive:1"}, {"minInclusive:1"}, {"minExclusive:1"}, {"totalDigits:1"}, {"fractionDigits:1"}} {
		c := compiled(t, kind.Decimal, false, l...)
		if !c.Holds("", nil) || !c.Holds("", two) || c.Holds("", two[:1]) && c.Holds("", two[1:]) {
			t.Errorf("%q", l)
		}
	}
	c := compiled(t, kind.Decimal, false, "enumeration:100.25")
	if c.Holds("", nil) || c.Holds("", two) || !c.Holds("", two[:1]) {
		t.Error("enumeration")
	}
	c = compiled(t, kind.String, false, "length:2")
	if c.Holds("", nil) || !c.Holds("", values(t, kind.String, "a", "")) || !c.Holds("", values(t, kind.String, "ab")) || c.Holds("", values(t, kind.String, "a", "b", "c")) {
		t.Error("length")
	}
}

// TestP1203OtherPrims: a value of another Prim has no order to a bound, is none of
// the enumeration, and no number of digits.
func TestP1203OtherPrims(t *testing.T) {
	text, day := values(t, kind.String, "1"), values(t, kind.Date, "2000-01-01")
	for _, l := range []string{"maxInclusive:1", "maxExclusive:1", "minInclusive:1", "minExclusive:1", "enumeration:1"} {
		if c := compiled(t, kind.Int, false, l); c.Holds("1", text) || c.Holds("1", day) {
			t.Errorf("%q", l)
		}
	}
	c := compiled(t, kind.Int, false, "totalDigits:1", "fractionDigits:0")
	long := values(t, kind.Decimal, "12345.678")[0]
	long.Prim = kind.String
	if !c.Holds("1", text) || !c.Holds("1", day) || !c.Holds("1", []kind.Value{long}) {
		t.Error("digits")
	}
	if !compiled(t, kind.String, false, "length:0").Holds("", day) {
		t.Error("length")
	}
}

func TestP1203White(t *testing.T) {
	ways := []string{char.Preserve: "preserve", char.Replace: "replace", char.Collapse: "collapse"}
	for _, white := range []int{-1, 0, char.Preserve, char.Replace, char.Collapse, 4} {
		for _, list := range []bool{false, true} {
			c, _, err := facet.Compile(kind.String, list, white, row("pattern:a"))
			if err != api.OK || c.White() != white {
				t.Errorf("%d: %v", white, err)
			}
		}
		for own := max(white, 1); own <= char.Collapse; own++ {
			c, _, err := facet.Compile(kind.String, false, white, row("pattern:a", "whiteSpace: "+ways[own], "length:1"))
			if err != api.OK || c.White() != own {
				t.Errorf("%s behind %d: %v", ways[own], white, err)
			}
		}
	}
	if c := compiled(t, kind.String, true, "whiteSpace:collapse"); c.White() != char.Collapse {
		t.Error("a list's")
	}
}

func TestP1203Bounds(t *testing.T) {
	for _, c := range []struct {
		k      int
		l      []string
		lo, hi string
	}{
		{kind.Int, nil, "", ""}, {kind.Int, []string{"pattern:1", "totalDigits:5", "enumeration:3"}, "", ""},
		{kind.Int, []string{"minInclusive:1"}, "1", ""}, {kind.Int, []string{"minExclusive:1"}, "1", ""}, {kind.Int, []string{"maxInclusive:1"}, "", "1"}, {kind.Int, []string{"maxExclusive:1"}, "", "1"},
		{kind.Int, []string{"maxInclusive:0", "pattern:1", "minInclusive:-7"}, "-7", "0"}, {kind.Decimal, []string{"minExclusive:1.50", "maxExclusive:2.5"}, "1.5", "2.5"}, {kind.Decimal, []string{"minInclusive:0", "maxExclusive:0.5"}, "0", "0.5"}, {kind.Decimal, []string{"maxInclusive:5", "minExclusive:+4"}, "4", "5"},
		{kind.Date, []string{"minInclusive:2000-01-01Z", "maxInclusive:2000-01-01"}, "2000-01-01Z", "2000-01-01"}, {kind.Duration, []string{"maxExclusive:P1M"}, "", "P1M"},
		{kind.String, []string{"length:1"}, "", ""},
	} {
		lo, hi, hasLo, hasHi := compiled(t, c.k, false, c.l...).Bounds()
		for _, x := range []struct {
			got  kind.Value
			has  bool
			want string
		}{{lo, hasLo, c.lo}, {hi, hasHi, c.hi}} {
			want := kind.Value{}
			if x.want != "" {
				want = values(t, c.k, x.want)[0]
			}
			if x.has != (x.want != "") || !reflect.DeepEqual(x.got, want) {
				t.Errorf("%s, %q: %+v, %v", kind.Name(c.k), c.l, x.got, x.has)
			}
		}
	}
	lo, hi, hasLo, hasHi := compiled(t, kind.Int, true, "length:1").Bounds()
	if !reflect.DeepEqual([]kind.Value{lo, hi}, make([]kind.Value, 2)) || hasLo || hasHi {
		t.Error("a list's")
	}
}

// holds is what Holds has to answer: the chapter's sentence, facet by facet.
func holds(t *testing.T, k int, list bool, l []facet.Facet, text string, v []kind.Value) bool {
	t.Helper()
	patterns, matched, enums, listed := 0, 0, 0, 0
	for _, f := range l {
		number, _ := strconv.Atoi(strings.TrimSpace(f.Text))
		size := len(v)
		if !list && len(v) == 1 {
			size = char.Count(v[0].Text)
		}
		order, total, fraction := date.Unknown, 0, 0
		if len(v) == 1 && v[0].Prim == kind.Decimal {
			total, fraction = v[0].Num.Total(), v[0].Num.Fraction()
		}
		bound, err := kind.Parse(k, f.Text)
		if err == api.OK && len(v) == 1 {
			order = kind.Cmp(v[0], bound)
		}
		fine := true
		switch inOrder[f.Kind-1].name {
		case "length":
			fine = size == number
		case "minLength":
			fine = size >= number
		case "maxLength":
			fine = size <= number
		case "pattern":
			patterns++
			n, _, _ := pat.Parse(f.Text)
			if nfa.Match(n, text) {
				matched++
			}
		case "enumeration":
			enums++
			parts := []string{f.Text}
			if list {
				parts = strings.Fields(f.Text)
			}
			if slices.EqualFunc(values(t, k, parts...), v, kind.Same) {
				listed++
			}
		case "maxInclusive":
			fine = len(v) != 1 || order == date.Less || order == date.Equal
		case "maxExclusive":
			fine = len(v) != 1 || order == date.Less
		case "minInclusive":
			fine = len(v) != 1 || order == date.Greater || order == date.Equal
		case "minExclusive":
			fine = len(v) != 1 || order == date.Greater
		case "totalDigits":
			fine = total <= number
		case "fractionDigits":
			fine = fraction <= number
		}
		if !fine {
			return false
		}
	}
	return (patterns == 0 || matched > 0) && (enums == 0 || listed > 0)
}

// pieces are facets that fit some kinds, and texts that are values of some.
func pieces() (facets, words []string) {
	facets = []string{"length:0", "length:1", "length: 2", "minLength:1", "minLength:2", "maxLength:1", "maxLength:2", "maxLength:3", "pattern:[0-9. ]*", "pattern:.", "pattern:a*|-?1?", "pattern:.{4,}", "whiteSpace:collapse", "totalDigits:1", "totalDigits:3", "fractionDigits:0", "fractionDigits:1"}
	words = []string{"a", "aa", "true", "0", "1", "-1", "1.5", "1.25", "10", "100", "2000-01-01", "2000-01-01Z", "2000-01-02", "1999-12-31+14:00", "P1M", "P30D", "P2M", "-P1D"}
	for _, s := range words {
		for _, name := range strings.Fields(bounds + "enumeration enumeration enumeration") {
			facets = append(facets, name+":"+s)
		}
	}
	return append(facets, "enumeration:", "enumeration:1 10", "enumeration:aa a", "enumeration:0 1"), words
}

// TestP1203Random: rows of facets that Compile takes, with no, one and several
// values of the kind, and sometimes of another.
func TestP1203Random(t *testing.T) {
	r := rand.New(rand.NewSource(12))
	facets, words := pieces()
	kinds := []int{kind.String, kind.NMToken, kind.Boolean, kind.Decimal, kind.Int, kind.Date, kind.Duration}
	all := map[int][]kind.Value{}
	for _, k := range kinds {
		for _, s := range words {
			if v, err := kind.Parse(k, s); err == api.OK {
				all[k] = append(all[k], v)
			}
		}
	}
	counts := map[bool]int{}
	for range 200000 {
		k, list := kinds[r.Intn(len(kinds))], r.Intn(3) == 0
		l := row(facets[r.Intn(len(facets))])
		for range r.Intn(4) {
			l = append(l, row(facets[r.Intn(len(facets))])...)
		}
		c, _, err := facet.Compile(k, list, kind.White(k), l)
		if err != api.OK {
			continue
		}
		for range 8 {
			of, v := k, []kind.Value{}
			if r.Intn(10) == 0 {
				of = kinds[r.Intn(len(kinds))]
			}
			for range []int{1, 1, 1, 1, 0, 2, 3}[r.Intn(7)] {
				v = append(v, all[of][r.Intn(len(all[of]))])
			}
			text := words[r.Intn(len(words))]
			want := holds(t, k, list, l, text, v)
			counts[want]++
			if c.Holds(text, v) != want {
				t.Fatalf("%s, %v, %v: %q, %+v: %v", kind.Name(k), list, l, text, v, !want)
			}
		}
	}
	if counts[true] < 30000 || counts[false] < 100000 {
		t.Errorf("counts: %v", counts)
	}
}

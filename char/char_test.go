package char_test

import (
	"slices"
	"strings"
	"testing"
	"unicode/utf8"

	"rubric/char"
)

// span is a range of letters, both ends in it.
type span struct {
	lo, hi rune
}

// within asks the document's list of ranges, without the program's switches.
func within(r rune, l []span) bool {
	return slices.ContainsFunc(l, func(s span) bool { return s.lo <= r && r <= s.hi })
}

// checkClass goes over every number a letter can have, and over some that none has.
func checkClass(t *testing.T, word string, class func(rune) bool, want []span) {
	t.Helper()
	for r := rune(-0x100); r <= 0x110100; r++ {
		if class(r) != within(r, want) {
			t.Fatalf("%s(%x): %v", word, r, class(r))
		}
	}
	for _, r := range []rune{-1 << 31, -1<<31 + 0x41, -0xFFFF, 0x7FFFFFFF, 0x40000041, 0x200041} {
		if class(r) {
			t.Errorf("%s(%x): true", word, r)
		}
	}
}

func TestP101DecodeBounds(t *testing.T) {
	for _, c := range []struct {
		bytes string
		r     rune
		n     int
	}{
		{"\x00", 0, 1},
		{"a", 'a', 1},
		{"\x7F", 0x7F, 1},
		{"\xC2\x80", 0x80, 2},
		{"\xC3\xA9", 0xE9, 2},
		{"\xDF\xBF", 0x7FF, 2},
		{"\xE0\xA0\x80", 0x800, 3},
		{"\xE2\x82\xAC", 0x20AC, 3},
		{"\xED\x9F\xBF", 0xD7FF, 3},
		{"\xEE\x80\x80", 0xE000, 3},
		{"\xEF\xBF\xBD", 0xFFFD, 3},
		{"\xEF\xBF\xBE", 0xFFFE, 3},
		{"\xEF\xBF\xBF", 0xFFFF, 3},
		{"\xF0\x90\x80\x80", 0x10000, 4},
		{"\xF4\x8F\xBF\xBF", 0x10FFFF, 4},
	} {
		for _, rest := range []string{"", "x", "\x80", "\xFF", "\u00e9"} {
			if r, n := char.Decode([]byte(c.bytes + rest)); r != c.r || n != c.n {
				t.Errorf("Decode(%q): %x, %d; want %x, %d", c.bytes+rest, r, n, c.r, c.n)
			}
		}
	}
}

func TestP101DecodeNone(t *testing.T) {
	for _, s := range []string{
		"",
		"\x80", "\xBF", "\xFE", "\xFF", // no first byte
		"\xC0\x80", "\xC0\xAF", "\xC1\xBF", // longer than they must be
		"\xE0\x80\x80", "\xE0\x9F\xBF",
		"\xF0\x80\x80\x80", "\xF0\x8F\xBF\xBF",
		"\xED\xA0\x80", "\xED\xAF\xBF", "\xED\xB0\x80", "\xED\xBF\xBF", // D800 to DFFF
		"\xF4\x90\x80\x80", "\xF5\x80\x80\x80", "\xF7\xBF\xBF\xBF", // above 10FFFF
		"\xF8\x88\x80\x80\x80", "\xFC\x84\x80\x80\x80\x80",
		"\xC3", "\xE2", "\xE2\x82", "\xF0", "\xF0\x90", "\xF0\x90\x80", // cut off
		"\xC3a", "\xE2a\x80", "\xE2\x82a", "\xF0a\x80\x80", "\xF0\x90a\x80", "\xF0\x90\x80a",
		"\xC3\xC3", "\xE2\x82\xC0", "\xF0\x90\x80\xC0", "\xC3\x00", "\xC3\x40",
	} {
		if r, n := char.Decode([]byte(s)); r != -1 || n != 0 {
			t.Errorf("Decode(%q): %x, %d; want -1, 0", s, r, n)
		}
	}
}

// fits holds Decode against the library's own decoder.
func fits(t *testing.T, b []byte) {
	t.Helper()
	want, size := utf8.DecodeRune(b)
	if want == utf8.RuneError && size <= 1 {
		want, size = -1, 0
	}
	if r, n := char.Decode(b); r != want || n != size {
		t.Fatalf("Decode(%x): %x, %d; want %x, %d", b, r, n, want, size)
	}
}

func TestP101DecodeEveryBeginning(t *testing.T) {
	for first := range 256 {
		fits(t, []byte{byte(first)})
		for second := range 256 {
			fits(t, []byte{byte(first), byte(second)})
			for _, third := range []byte{0x00, 0x3F, 0x41, 0x7F, 0x80, 0x81, 0xBF, 0xC0, 0xFF} {
				fits(t, []byte{byte(first), byte(second), third})
				for _, fourth := range []byte{0x00, 0x7F, 0x80, 0x95, 0xBF, 0xC0, 0xFF} {
					fits(t, []byte{byte(first), byte(second), third, fourth})
				}
			}
		}
	}
}

func TestP101EncodeEveryLetter(t *testing.T) {
	for r := rune(0); r <= 0x10FFFF; r++ {
		b := char.Encode(r)
		if r >= 0xD800 && r <= 0xDFFF {
			if len(b) != 0 {
				t.Fatalf("Encode(%x): %x; want nothing", r, b)
			}
			continue
		}
		if string(b) != string(r) {
			t.Fatalf("Encode(%x): %x", r, b)
		}
		if back, n := char.Decode(b); back != r || n != len(b) {
			t.Fatalf("Decode(Encode(%x)): %x, %d", r, back, n)
		}
	}
}

func TestP101EncodeNone(t *testing.T) {
	for _, r := range []rune{-1, -0x80, -1 << 31, 0xD800, 0xDBFF, 0xDC00, 0xDFFF, 0x110000, 0x1FFFFF, 0x200000, 0x7FFFFFFF} {
		if b := char.Encode(r); len(b) != 0 {
			t.Errorf("Encode(%x): %x; want nothing", r, b)
		}
	}
}

func TestP101Right(t *testing.T) {
	for _, c := range []struct {
		text string
		at   int
		ok   bool
	}{
		{"", 0, true},
		{"ab", 2, true},
		{"\t\n\r ", 4, true},
		{"a\u00e9\u20ac\U00010000", 10, true},
		{"\ud7ff\ue000\ufffd\U00010000\U0010ffff", 17, true},
		{"\x00", 0, false},
		{"a\x00", 1, false},
		{"a\t\u00e9\x01b", 4, false},
		{"\x08", 0, false},
		{"ab\x0B", 2, false},
		{"ab\x0C", 2, false},
		{"ab\x1Fc", 2, false},
		{"\u20ac\ufffe", 3, false},
		{"\u20ac\uffffx", 3, false},
		{"a\xffb", 1, false},
		{"a\xed\xa0\x80", 1, false},
		{"a\xf4\x90\x80\x80", 1, false},
		{"a\xc0\x80", 1, false},
		{"abc\xe2\x82", 3, false},
		{"a\x01b\xff", 1, false},
		{"a\xffb\x01", 1, false},
	} {
		if at, ok := char.Right([]byte(c.text)); at != c.at || ok != c.ok {
			t.Errorf("Right(%q): %d, %v; want %d, %v", c.text, at, ok, c.at, c.ok)
		}
	}
	if at, ok := char.Right(nil); at != 0 || !ok {
		t.Errorf("Right(nil): %d, %v", at, ok)
	}
	long := strings.Repeat("a\u00e9", 30000)
	if at, ok := char.Right([]byte(long)); at != len(long) || !ok {
		t.Errorf("Right of a long text: %d, %v", at, ok)
	}
	if at, ok := char.Right([]byte(long + "\x02")); at != len(long) || ok {
		t.Errorf("Right of a long text, wrong at its end: %d, %v", at, ok)
	}
}

func TestP101Char(t *testing.T) {
	checkClass(t, "Char", char.Char, []span{{0x9, 0xA}, {0xD, 0xD}, {0x20, 0xD7FF}, {0xE000, 0xFFFD}, {0x10000, 0x10FFFF}})
}

// starts: the ranges of Start, each with its holes cut out by hand.
var starts = []span{{'A', 'Z'}, {'a', 'z'}, {'_', '_'}, {':', ':'}, {0xC0, 0xD6}, {0xD8, 0xF6}, {0xF8, 0xD7FF}, {0xE000, 0xFFFD}, {0x10000, 0x10FFFF}}

func TestP102Start(t *testing.T) {
	checkClass(t, "Start", char.Start, starts)
}

func TestP102Part(t *testing.T) {
	checkClass(t, "Part", char.Part, append([]span{{'0', '9'}, {'-', '.'}, {0xB7, 0xB7}}, starts...))
}

func TestP102White(t *testing.T) {
	checkClass(t, "White", char.White, []span{{0x9, 0xA}, {0xD, 0xD}, {0x20, 0x20}})
}

const (
	name   = 1
	ncname = 2
	token  = 4
)

func namesOf(s string) int {
	got := 0
	if char.Name(s) {
		got |= name
	}
	if char.NCName(s) {
		got |= ncname
	}
	if char.Token(s) {
		got |= token
	}
	return got
}

func TestP102Names(t *testing.T) {
	for _, c := range []struct {
		text string
		want int
	}{
		{"", 0},
		{"a", name | ncname | token},
		{"Zz", name | ncname | token},
		{"_", name | ncname | token},
		{"_a.b-c1", name | ncname | token},
		{"\u00c0", name | ncname | token},
		{"x\u00b7", name | ncname | token},
		{"\ufffd", name | ncname | token},
		{"\U0010ffff\u00e9", name | ncname | token},
		{":", name | token},
		{"::", name | token},
		{":a", name | token},
		{"a:", name | token},
		{"a:b", name | token},
		{"a:b:c", name | token},
		{"a:1", name | token},
		{"1", token},
		{"1a", token},
		{"-", token},
		{"-a", token},
		{".a", token},
		{"\u00b7", token},
		{"\u00b7a", token},
		{"1:a", token},
		{"\u00d7", 0},
		{"a\u00f7", 0},
		{"\u00bf", 0},
		{"a\u00b6", 0},
		{"a\u00b8", 0},
		{"a/b", 0},
		{" ", 0},
		{"a b", 0},
		{" a", 0},
		{"a ", 0},
		{"a\n", 0},
		{"a\x00", 0},
		{"\x00", 0},
		{"a\ufffe", 0},
		{"\uffff", 0},
		{"a\xff", 0},
		{"\xff", 0},
		{"\xffa", 0},
		{"a\xffb", 0},
		{"a\xc3", 0},
		{"a\xc0\xba", 0}, // a colon that is longer than it must be
		{"a\xed\xa0\x80", 0},
		{"a\xf4\x90\x80\x80", 0},
	} {
		if got := namesOf(c.text); got != c.want {
			t.Errorf("%q: %d; want %d", c.text, got, c.want)
		}
	}
}

func TestP102NamesOfOneLetter(t *testing.T) {
	for r := rune(0); r <= 0x10FFFF; r++ {
		if r >= 0xD800 && r <= 0xDFFF {
			continue
		}
		want := 0
		if char.Part(r) {
			want |= token
		}
		if char.Start(r) {
			want |= name
		}
		if char.Start(r) && r != ':' {
			want |= ncname
		}
		if got := namesOf(string(r)); got != want {
			t.Fatalf("%x: %d; want %d", r, got, want)
		}
	}
}

func TestP102NamesOfAnyLength(t *testing.T) {
	long := strings.Repeat("a1", 30000)
	if got := namesOf(long); got != name|ncname|token {
		t.Errorf("a long name: %d", got)
	}
	if got := namesOf(long + " "); got != 0 {
		t.Errorf("a long name and a blank: %d", got)
	}
}

func TestP102QName(t *testing.T) {
	for _, c := range []struct {
		text, prefix, local string
	}{
		{"b", "", "b"},
		{"_b.1-", "", "_b.1-"},
		{"a:b", "a", "b"},
		{"xs:element", "xs", "element"},
		{"\u00e9:\u00e8\u00b7", "\u00e9", "\u00e8\u00b7"},
		{"a.1:_", "a.1", "_"},
	} {
		if p, l, ok := char.QName(c.text); !ok || p != c.prefix || l != c.local {
			t.Errorf("QName(%q): %q, %q, %v", c.text, p, l, ok)
		}
	}
}

func TestP102QNameNone(t *testing.T) {
	for _, s := range []string{
		"", ":", "::", ":b", "a:", "a::b", ":a:b", "a:b:", "a:b:c",
		"1", "1:b", "a:1", "-a:b", "a:-b", "a:\u00b7b", "\u00b7:b",
		" a", "a ", "a :b", "a: b", "a b", "a\xff", "a\xff:b", "a:b\xff", "\xff:b", "a:\xff",
		"\u00d7:b", "a:\u00f7",
	} {
		if p, l, ok := char.QName(s); ok || p != "" || l != "" {
			t.Errorf("QName(%q): %q, %q, %v; want nothing", s, p, l, ok)
		}
	}
}

func TestP103Space(t *testing.T) {
	for _, c := range []struct {
		text, replaced, collapsed string
	}{
		{"", "", ""},
		{" ", " ", ""},
		{"\t\n\r ", "    ", ""},
		{"a", "a", "a"},
		{" a", " a", "a"},
		{"a ", "a ", "a"},
		{"a b", "a b", "a b"},
		{"a\tb", "a b", "a b"},
		{"a\nb", "a b", "a b"},
		{"a\rb", "a b", "a b"},
		{"a\r\nb", "a  b", "a b"},
		{" \ta\n\nb\r ", "  a  b  ", "a b"},
		{"  a   b  c ", "  a   b  c ", "a b c"},
		{"\u00e9\t\u20ac\n", "\u00e9 \u20ac ", "\u00e9 \u20ac"},
		{"a\u00a0b\u2003\u0085", "a\u00a0b\u2003\u0085", "a\u00a0b\u2003\u0085"},
		{"\x0ba\x0c\x1f", "\x0ba\x0c\x1f", "\x0ba\x0c\x1f"},
		{"\xff\t\xc3\n\x00", "\xff \xc3 \x00", "\xff \xc3 \x00"},
		{"\xe2\t\x82\t\t", "\xe2 \x82  ", "\xe2 \x82"},
	} {
		if got := char.Space(c.text, char.Replace); got != c.replaced {
			t.Errorf("Space(%q, Replace): %q; want %q", c.text, got, c.replaced)
		}
		if got := char.Space(c.text, char.Collapse); got != c.collapsed {
			t.Errorf("Space(%q, Collapse): %q; want %q", c.text, got, c.collapsed)
		}
		for _, how := range []int{char.Preserve, 0, -1, 4, 9, 1 << 40, -1 << 62} {
			if got := char.Space(c.text, how); got != c.text {
				t.Errorf("Space(%q, %d): %q", c.text, how, got)
			}
		}
	}
}

func TestP103SpaceNumbers(t *testing.T) {
	if char.Preserve != 1 || char.Replace != 2 || char.Collapse != 3 {
		t.Error("the numbers of how")
	}
	if got := char.Space("\ta\t", 2); got != " a " {
		t.Errorf("%q", got)
	}
	if got := char.Space("\ta\t", 3); got != "a" {
		t.Errorf("%q", got)
	}
}

func TestP103Words(t *testing.T) {
	for _, c := range []struct {
		text string
		want []string
	}{
		{"", nil},
		{" ", nil},
		{" \t\r\n ", nil},
		{"a", []string{"a"}},
		{" a ", []string{"a"}},
		{"a b", []string{"a", "b"}},
		{"\ta\n\nb\r c ", []string{"a", "b", "c"}},
		{"b a b", []string{"b", "a", "b"}},
		{"\u00e9t\u00e9 \u20ac", []string{"\u00e9t\u00e9", "\u20ac"}},
		{"a\u00a0b", []string{"a\u00a0b"}},
		{"\xff \xc3\t\x00", []string{"\xff", "\xc3", "\x00"}},
	} {
		if got := char.Words(c.text); !slices.Equal(got, c.want) {
			t.Errorf("Words(%q): %q; want %q", c.text, got, c.want)
		}
	}
	if got := char.Words(strings.Repeat("ab\t\n", 10000)); len(got) != 10000 || got[0] != "ab" || got[9999] != "ab" {
		t.Errorf("Words of a long text: %d", len(got))
	}
}

func TestP103Count(t *testing.T) {
	for _, c := range []struct {
		text string
		want int
	}{
		{"", 0},
		{"a", 1},
		{"\x00\x01", 2},
		{"abc ", 4},
		{"\u00e9", 1},
		{"\u20aca", 2},
		{"\ufffe\uffff", 2},
		{"\U00010000\U0010ffff", 2},
		{"e\u0301", 2},
		{"\ufffd", 1},
		{"\xff", 1},
		{"\xff\xff", 2},
		{"a\u00e9\xffb", 4},
		{"\xc3", 1},
		{"\xc3a", 2},
		{"\xc0\x80", 2},
		{"\xe2\x82", 2},
		{"\xe0\x80\x80", 3},
		{"\xed\xa0\x80", 3},
		{"\xf4\x90\x80\x80", 4},
		{"\xf0\x90\x80", 3},
		{"\xe2\xe2\x82\xac", 2},
		{strings.Repeat("\u20ac", 20000), 20000},
	} {
		if got := char.Count(c.text); got != c.want {
			t.Errorf("Count(%.20q): %d; want %d", c.text, got, c.want)
		}
	}
}

// What is handed in stays as it is, its spare room too.
func TestP2HandedInUnchanged(t *testing.T) {
	for _, s := range []string{"", "a\u00e9", "\xc3", "a\tb\x01"} {
		whole := append([]byte(s), "\xa9spare"...)
		before := slices.Clone(whole)
		part := whole[:len(s)]
		char.Right(part)
		r, n := char.Decode(part)
		if again, m := char.Decode(slices.Clip([]byte(s))); r != again || n != m {
			t.Errorf("Decode(%q) hangs on the spare room", s)
		}
		if !slices.Equal(whole, before) {
			t.Errorf("%q was changed: %q", before, whole)
		}
	}
}

// An answer, its spare room too, is nobody else's.
func TestP2AnswersAreNew(t *testing.T) {
	for _, r := range []rune{'a', 0xE9, 0x20AC, 0x10FFFF, -1} {
		one := char.Encode(r)
		spoil(one)
		spoil(append(one, '!'))
		if two := char.Encode(r); r >= 0 && string(two) != string(r) {
			t.Errorf("Encode(%x) after its answer was changed: %x", r, two)
		}
	}
	s := "a b c"
	one := char.Words(s)
	clear(one[:cap(one)])
	if two := char.Words(s); !slices.Equal(two, []string{"a", "b", "c"}) {
		t.Errorf("Words after its answer was changed: %q", two)
	}
}

func spoil(b []byte) {
	b = b[:cap(b)]
	for i := range b {
		b[i] = '#'
	}
}

// No list and an empty one are the same.
func TestP2NoList(t *testing.T) {
	for _, b := range [][]byte{nil, {}} {
		if r, n := char.Decode(b); r != -1 || n != 0 {
			t.Errorf("Decode: %x, %d", r, n)
		}
		if at, ok := char.Right(b); at != 0 || !ok {
			t.Errorf("Right: %d, %v", at, ok)
		}
	}
}

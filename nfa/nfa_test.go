package nfa_test

import (
	"math"
	"strings"
	"testing"

	"rubric/api"
	"rubric/nfa"
	"rubric/pat"
)

// both is a pattern as a matcher and as a tree.
type both struct {
	s string
	m *nfa.Matcher
	n pat.Node
}

func compiled(t *testing.T, s string) both {
	t.Helper()
	m, at, err := nfa.Compile(s, api.MaxPos)
	if err != api.OK || at != 0 || m == nil {
		t.Fatalf("%.80q: %v, %d, %v", s, m, at, err)
	}
	return both{s, m, parsed(t, s)}
}

func parsed(t *testing.T, s string) pat.Node {
	t.Helper()
	n, at, err := pat.Parse(s)
	if err != api.OK {
		t.Fatalf("%.80q: %d, %v", s, at, err)
	}
	return n
}

// check holds both Matches to what a text is.
func (b both) check(t *testing.T, text string, want bool) {
	t.Helper()
	if got := b.m.Match(text); got != want {
		t.Errorf("%.80q: m.Match(%.80q), of %d bytes: %v", b.s, text, len(text), got)
	}
	if got := nfa.Match(b.n, text); got != want {
		t.Errorf("%.80q: Match(%.80q), of %d bytes: %v", b.s, text, len(text), got)
	}
}

// table is a pattern with texts that are its words, and others.
type table struct {
	s       string
	yes, no []string
}

func (c table) check(t *testing.T) {
	t.Helper()
	b := compiled(t, c.s)
	for _, text := range c.yes {
		b.check(t, text, true)
	}
	for _, text := range c.no {
		b.check(t, text, false)
	}
}

func TestP1001Match(t *testing.T) {
	type l = []string
	for _, c := range []table{
		{"", l{""}, l{"a", " "}},
		{"()", l{""}, l{"a", "()"}},
		{"|", l{""}, l{"a", "|"}},
		{"a", l{"a"}, l{"", "b", "aa", "A", "ab", "ba"}},
		{"abc", l{"abc"}, l{"", "ab", "bc", "acb", "abcd", "xabc", "abcabc"}},
		{"a|b", l{"a", "b"}, l{"", "ab", "ba", "c", "a|b"}},
		{"a|", l{"", "a"}, l{"b", "aa"}},
		{"|a", l{"", "a"}, l{"b", "aa"}},
		{"ab|cd|", l{"", "ab", "cd"}, l{"abcd", "ad", "cb", "a"}},
		{"a(b|c)d", l{"abd", "acd"}, l{"ad", "abcd", "abd ", "bd"}},
		{"(a|ab)(c|bcd)", l{"ac", "abc", "abcd", "abbcd"}, l{"a", "ab", "abbc", "abcdd", "acd"}},
		{"a?", l{"", "a"}, l{"aa", "b"}},
		{"a*", l{"", "a", "aa", "aaaaaaaaaaaaaaaa"}, l{"b", "ab", "aaaaab", "baaaa"}},
		{"a+", l{"a", "aa", "aaaaaaaaaaaaaaaa"}, l{"", "b", "aab"}},
		{"a{3}", l{"aaa"}, l{"", "a", "aa", "aaaa"}},
		{"a{2,4}", l{"aa", "aaa", "aaaa"}, l{"", "a", "aaaaa"}},
		{"a{2,}", l{"aa", "aaa", "aaaaaaaaa"}, l{"", "a", "aab"}},
		{"a{0,}", l{"", "a", "aaa"}, l{"b"}},
		{"a{0}", l{""}, l{"a"}},
		{"a{0,0}b", l{"b"}, l{"ab", "a", ""}},
		{"(a{0}|b)+", l{"", "b", "bb"}, l{"a", "ba"}},
		{"(ab?){2}c*", l{"aa", "aab", "aba", "abab", "ababccc"}, l{"a", "ab", "abb", "aaa", "c"}},
		{"(a|bc)*", l{"", "a", "bc", "abca", "bcbc"}, l{"b", "c", "ab", "bca b", "cb"}},
		{"(a*)*", l{"", "a", "aaaa"}, l{"b", "aab"}},
		{"(a*b*)*", l{"", "ab", "ba", "bbaab"}, l{"c", "abc"}},
		{"(a?){3}", l{"", "a", "aa", "aaa"}, l{"aaaa"}},
		{"(aa|aaa){2}", l{"aaaa", "aaaaa", "aaaaaa"}, l{"", "aa", "aaa", "aaaaaaa"}},
		{".", l{"a", ".", " ", "\t", "\u00e9", "\u20ac", "\U0001F600", "\U0010FFFF"}, l{"", "\n", "\r", "ab"}},
		{".*", l{"", "abc", "\u00e9\u20ac\U0001F600"}, l{"a\nb", "\r"}},
		{"[a-c]", l{"a", "b", "c"}, l{"", "d", "-", "`", "ab"}},
		{"[^a-c]", l{"d", "-", "\n", "\u20ac"}, l{"", "a", "b", "c", "de"}},
		{"[a-z-[aeiou]]+", l{"b", "xyz"}, l{"", "a", "bab", "-"}},
		{"[a-[a]]", nil, l{"", "a", "b", "-"}},
		{"[a-[a]]?", l{""}, l{"a", "b"}},
		{"[a-[a]]b|c", l{"c"}, l{"", "b", "ab", "bc"}},
		{"\\d\\D", l{"1a", "9\u0661"}, l{"11", "a1", "1", ""}},
		{"\\s\\S", l{" a", "\tb", "\nc", "\rd"}, l{"a ", "  ", "aa"}},
		{"\\i\\c*", l{"a", "_", ":x", "a-1.b", "\u00e9t\u00e9"}, l{"", "-", "1a", ".x", "a b"}},
		{"\\I\\C", l{"1 ", "-+"}, l{"a ", "11"}},
		{"\\w\\W", l{"a ", "1-", "$."}, l{"aa", "  "}},
		{"\\p{Lu}\\P{Lu}", l{"Ab", "Z1"}, l{"AB", "ab"}},
		{"\\n\\r\\t", l{"\n\r\t"}, l{"nrt", "\\n\\r\\t"}},
		{"\\.\\\\\\?\\*\\+\\(\\)\\|\\[\\]\\{\\}\\-\\^", l{".\\?*+()|[]{}-^"}, l{"", "."}},
		{"^a$", l{"^a$"}, l{"a"}},
		{"a-b", l{"a-b"}, l{"ab", "a"}},
		{"\u00e9+\U0001F600", l{"\u00e9\U0001F600", "\u00e9\u00e9\U0001F600"}, l{"\u00e9", "\U0001F600", "e\U0001F600", "\xc3\U0001F600"}},
		{"\ufffd", l{"\ufffd"}, l{"", "\xff", "\xef\xbf", "\xef\xbf\xbd\xbd"}},
	} {
		c.check(t)
	}
}

// TestP1001NoLetters: a text that is not char.Right is a word of nothing, though
// the pattern has the same letters, or a range over the text does.
func TestP1001NoLetters(t *testing.T) {
	wrong := []string{"\x00", "\x01", "\x08", "\x0b", "\x0c", "\x0e", "\x1f", "\ufffe", "\uffff", "\xff", "\x80", "\xc3", "\xe2\x82", "\xf0\x9f\x98", "\xc0\xaf", "\xe0\x80\xaf", "\xed\xa0\x80", "\xed\xbf\xbf", "\xf4\x90\x80\x80", "\xf8\x88\x80\x80\x80"}
	for _, p := range []string{"", ".*", "[^a]*", "\\S*", "\\W*", "\\C*", "\\P{L}*", "(.|\\s)*", "\ufffd", "\ufffd*", "\\p{C}*", "[\x00-\U0010FFFF]*", "\x01", "\ufffe", "a*[\x00-\x1f]*a*"} {
		b := compiled(t, p)
		for _, w := range wrong {
			for _, text := range []string{w, "a" + w, w + "a", "\ufffd" + w, "aaa" + w + "aaa"} {
				b.check(t, text, false)
			}
		}
	}
	b := compiled(t, "[\x00-\U0010FFFF]*")
	for _, text := range []string{"", "a", "\t\n\r", "\ufffd", "\ud7ff\ue000", "\U00010000\U0010FFFF", "\u007f\u0080"} {
		b.check(t, text, true)
	}
}

// TestP1001CompileFaults: the answer is what Parse says, with its place, and no
// matcher.
func TestP1001CompileFaults(t *testing.T) {
	for s, want := range map[string]struct {
		at  int
		err api.Errno
	}{
		"a(": {2, api.ErrForm}, "(": {1, api.ErrForm}, ")": {0, api.ErrForm}, "ab)": {2, api.ErrForm}, "*": {0, api.ErrForm}, "a**": {2, api.ErrForm},
		"ab[c-a]": {3, api.ErrForm}, "a{2,1}": {1, api.ErrForm}, "a{1001}": {1, api.ErrForm}, "a\\q": {1, api.ErrForm}, "ab\\p{Lt}": {2, api.ErrOdd}, "a\xff": {1, api.ErrForm}, "[a": {2, api.ErrForm}, "a\\": {2, api.ErrForm},
		strings.Repeat("a", api.MaxToken+1):                          {0, api.ErrMany},
		strings.Repeat("|", api.MaxToken+1):                          {0, api.ErrMany},
		"ab" + strings.Repeat("(", 41) + strings.Repeat(")", 41):     {42, api.ErrMany},
		strings.Repeat("a", 600) + "(":                               {601, api.ErrForm},
		"a{1000}b{1000}\\p{X}":                                       {14, api.ErrOdd},
		strings.Repeat("(", 40) + "[a]" + strings.Repeat(")", 40):    {40, api.ErrMany},
		"a{600}" + strings.Repeat("(", 41) + strings.Repeat(")", 41): {46, api.ErrMany},
	} {
		for _, most := range []int{math.MinInt, -1, 0, 5, api.MaxPos, math.MaxInt} {
			m, at, err := nfa.Compile(s, most)
			if m != nil || at != want.at || err != want.err {
				t.Errorf("%.40q, %d: %v, %d, %v; want %d, %v", s, most, m, at, err, want.at, want.err)
			}
		}
	}
}

// TestP1001CompileMost: as many positions as most are not too many, one more is;
// and whatever most is, more than MaxPos are.
func TestP1001CompileMost(t *testing.T) {
	for s, want := range map[string]int{
		"": 0, "()*": 0, "|||": 0, "a{0}": 0, "(a{1000}){0}": 0, "(((a{9}b){1000}){1000}){0,0}": 0,
		"a": 1, "a*": 1, "[a-[a]]": 1, "(a{0}b)+": 1, "a|": 1,
		"ab": 2, "a|b": 2, "aa": 2, "a{5}": 5, "a{2,5}": 5, "a{5,}": 5, "(ab?){3}c": 7, "((a?){3}){0,2}": 6, "(a{2}|b{3}c){4}": 24,
		"a{511}": 511, "a{512}": 512, "(a{16}){32}": 512, "(a|b){256}": 512, "a{500}b{12}": 512, strings.Repeat("a", 512): 512,
		"a{513}": 513, "(a|b){256}c": 513, "a{500}b{13}": 513, strings.Repeat("a", 513): 513, "a{1000}": 1000, "(a{1000}){1000}": 1000000, strings.Repeat("a", api.MaxToken): api.MaxToken,
	} {
		for _, most := range []int{math.MinInt, -2, -1, 0, 1, want - 1, want, want + 1, 511, 512, 513, 4096, 1 << 20, 1<<20 + 1, math.MaxInt} {
			m, at, err := nfa.Compile(s, most)
			if want > most || want > api.MaxPos {
				if m != nil || at != 0 || err != api.ErrMany {
					t.Errorf("%.40q, %d: %v, %d, %v", s, most, m, at, err)
				}
				continue
			}
			if err != api.OK || at != 0 || m == nil || m.Positions() != want {
				t.Errorf("%.40q, %d: %v, %d, %v", s, most, m, at, err)
			}
		}
	}
}

// TestP1001ManyNodes: patterns without too many positions, but with as many nodes
// as there can be, have matchers.
func TestP1001ManyNodes(t *testing.T) {
	wrap := func(s, front, back string, room int) string {
		for range room / (len(front) + len(back)) {
			s = front + s + back
		}
		return s
	}
	bars := strings.Repeat("|", api.MaxToken)
	for _, c := range []struct {
		s         string
		positions int
		yes, no   string
	}{
		{bars, 0, "", "|"},
		{bars[:4095] + "a", 1, "a", "aa"},
		{"a" + bars[:4095], 1, "a", "aa"},
		{"(a" + bars[:4088] + "){2}b", 3, "aab", "aaab"},
		{"(a{500}" + bars[:4080] + ")b", 501, strings.Repeat("a", 500) + "b", strings.Repeat("a", 499) + "b"},
		{strings.Repeat("()", 2047) + "a", 1, "a", "aa"},
		{strings.Repeat("(|)?", 1023) + "a", 1, "a", "aa"},
		{strings.Repeat("(|)", 1364) + "a", 1, "a", "aa"},
		{strings.Repeat("a{0}", 1023) + "a", 1, "a", "aa"},
		{"(" + strings.Repeat("a?", 2045) + "){0}a", 1, "a", "aa"},
		{"(" + strings.Repeat("b", 4090) + "){0}a", 1, "a", "b"},
		{strings.Repeat("a?", 512), 512, strings.Repeat("a", 512), strings.Repeat("a", 513)},
		{strings.Repeat("(a?|)?", 512), 512, strings.Repeat("a", 512), strings.Repeat("a", 513)},
		{strings.Repeat("(a|)+", 512), 512, strings.Repeat("a", 513), "b"},
		{strings.Repeat("(a?)?", 512), 512, strings.Repeat("a", 512), strings.Repeat("a", 513)},
		{strings.Repeat(wrap("a", "(", "|)?", 150), 26), 26, strings.Repeat("a", 26), strings.Repeat("a", 27)},
		{strings.Repeat("((a?|)?a?|)?", 256) + strings.Repeat("(|)?", 256), 512, strings.Repeat("a", 512), strings.Repeat("a", 513)},
		{strings.Repeat("(((a?|)?|)?a?|)?", 256), 512, strings.Repeat("a", 512), strings.Repeat("a", 513)},
	} {
		if len(c.s) > api.MaxToken {
			t.Fatalf("%.40q has %d bytes", c.s, len(c.s))
		}
		b := compiled(t, c.s)
		if b.m.Positions() != c.positions {
			t.Errorf("%.40q: %d positions; want %d", c.s, b.m.Positions(), c.positions)
		}
		b.check(t, c.yes, true)
		b.check(t, c.no, false)
	}
}

func TestP1001Quote(t *testing.T) {
	for s, want := range map[string]string{
		"": "", "a": "a", "abc": "abc", "\u00e9\u20ac\U0001F600": "\u00e9\u20ac\U0001F600", "a b": "a b", "$,:;!\"#%&'/<=>@_`~09AZaz": "$,:;!\"#%&'/<=>@_`~09AZaz",
		".": "\\.", "\\": "\\\\", "?": "\\?", "*": "\\*", "+": "\\+", "(": "\\(", ")": "\\)", "|": "\\|", "[": "\\[", "]": "\\]", "{": "\\{", "}": "\\}", "-": "\\-", "^": "\\^",
		"\n": "\\n", "\r": "\\r", "\t": "\\t", "\\n": "\\\\n", "\r\n": "\\r\\n",
		"a.b*[c]": "a\\.b\\*\\[c\\]", "{1,2}": "\\{1,2\\}", "\\d": "\\\\d",
		"\xff": "\xff", ".\xff\xc3.": "\\.\xff\xc3\\.", "\x00\x01": "\x00\x01",
	} {
		if got := nfa.Quote(s); got != want {
			t.Errorf("Quote(%q): %q; want %q", s, got, want)
		}
	}
}

// TestP1001QuoteOfLetters: of every letter and every text of a few signs just that
// text matches.
func TestP1001QuoteOfLetters(t *testing.T) {
	var l []string
	for r := rune(0x20); r < 0x300; r++ {
		l = append(l, string(r))
	}
	l = append(l, "\t", "\n", "\r", "\ud7ff", "\ue000", "\ufffd", "\U00010000", "\U0010FFFF")
	const signs = ".\\?*+()|[]{}-^\n\r\tna1,"
	for _, a := range signs {
		for _, b := range signs {
			l = append(l, string(a)+string(b), string(a)+string(b)+string(a))
		}
	}
	for i, s := range l {
		b := compiled(t, nfa.Quote(s))
		b.check(t, s, true)
		b.check(t, "", false)
		b.check(t, s+s, false)
		b.check(t, s+"x", false)
		b.check(t, "x"+s, false)
		for _, k := range []int{i + 1, i + 7, i + 50} {
			b.check(t, l[k%len(l)], false)
		}
	}
}

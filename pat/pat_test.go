package pat_test

import (
	"slices"
	"strconv"
	"strings"
	"testing"

	"rubric/api"
	"rubric/char"
	"rubric/pat"
	"rubric/set"
)

// all is how many letters there are, the last of them all less 1.
const all = 0x110000

func rg(lo, hi rune) set.Range { return set.Range{Lo: lo, Hi: hi} }

// letters answers the set of a text's letters.
func letters(s string) set.Set {
	var l []set.Range
	for _, r := range s {
		l = append(l, rg(r, r))
	}
	return set.Of(l...)
}

func empty() pat.Node               { return pat.Node{Kind: pat.Empty} }
func sym(s string) pat.Node         { return pat.Node{Kind: pat.Sym, Set: letters(s)} }
func seq(l ...pat.Node) pat.Node    { return pat.Node{Kind: pat.Seq, Kids: l} }
func alt(l ...pat.Node) pat.Node    { return pat.Node{Kind: pat.Alt, Kids: l} }
func number(n int) string           { return strconv.Itoa(n) }
func symOf(l ...set.Range) pat.Node { return pat.Node{Kind: pat.Sym, Set: set.Of(l...)} }
func rep(a, b int, n pat.Node) pat.Node {
	return pat.Node{Kind: pat.Rep, Min: a, Max: b, Kids: []pat.Node{n}}
}

// same tells whether two trees are the same in every field.
func same(a, b pat.Node) bool {
	return a.Kind == b.Kind && slices.Equal(a.Set, b.Set) && a.Min == b.Min && a.Max == b.Max && slices.EqualFunc(a.Kids, b.Kids, same)
}

// tell writes a tree out.
func tell(n pat.Node) string {
	var l []string
	for _, k := range n.Kids {
		l = append(l, tell(k))
	}
	kids := "(" + strings.Join(l, " ") + ")"
	switch n.Kind {
	case pat.Empty:
		return "empty"
	case pat.Sym:
		for _, r := range n.Set {
			l = append(l, strconv.FormatInt(int64(r.Lo), 16)+"-"+strconv.FormatInt(int64(r.Hi), 16))
		}
		return "[" + strings.Join(l, " ") + "]"
	case pat.Seq:
		return "seq" + kids
	case pat.Alt:
		return "alt" + kids
	case pat.Rep:
		return "rep" + strconv.Itoa(n.Min) + "," + strconv.Itoa(n.Max) + kids
	}
	return "kind" + strconv.Itoa(n.Kind)
}

func checkTree(t *testing.T, s string, want pat.Node) {
	t.Helper()
	if n, at, err := pat.Parse(s); err != api.OK || at != 0 || !same(n, want) {
		t.Errorf("%q: %s, %d, %v; want %s", s, tell(n), at, err, tell(want))
	}
}

func checkFault(t *testing.T, s string, want int, why api.Errno) {
	t.Helper()
	if n, at, err := pat.Parse(s); err != why || at != want || !same(n, pat.Node{}) {
		t.Errorf("%q: %s, %d, %v; want %d, %v", s, tell(n), at, err, want, why)
	}
}

func TestP802Trees(t *testing.T) {
	a, b, c := sym("a"), sym("b"), sym("c")
	for s, want := range map[string]pat.Node{
		"":                        empty(),
		"a":                       a,
		"ab":                      seq(a, b),
		"abc":                     seq(a, b, c),
		"a|b":                     alt(a, b),
		"a|b|c":                   alt(a, b, c),
		"ab|c":                    alt(seq(a, b), c),
		"a|bc":                    alt(a, seq(b, c)),
		"|":                       alt(empty(), empty()),
		"||":                      alt(empty(), empty(), empty()),
		"a|":                      alt(a, empty()),
		"|a":                      alt(empty(), a),
		"a||b":                    alt(a, empty(), b),
		"()":                      empty(),
		"(())":                    empty(),
		"(a)":                     a,
		"((a))":                   a,
		"(ab)":                    seq(a, b),
		"(ab)c":                   seq(seq(a, b), c),
		"a(bc)":                   seq(a, seq(b, c)),
		"a()":                     seq(a, empty()),
		"()()":                    seq(empty(), empty()),
		"(a|b)":                   alt(a, b),
		"(a|b)|c":                 alt(alt(a, b), c),
		"(|)":                     alt(empty(), empty()),
		"(a|)(b)":                 seq(alt(a, empty()), b),
		"a?":                      rep(0, 1, a),
		"a*":                      rep(0, -1, a),
		"a+":                      rep(1, -1, a),
		"()*":                     rep(0, -1, empty()),
		"ab*":                     seq(a, rep(0, -1, b)),
		"(ab)*":                   rep(0, -1, seq(a, b)),
		"(a*)+":                   rep(1, -1, rep(0, -1, a)),
		"(a|b)?c":                 seq(rep(0, 1, alt(a, b)), c),
		"a*|b+":                   alt(rep(0, -1, a), rep(1, -1, b)),
		"[ab]*":                   rep(0, -1, sym("ab")),
		"\\d+":                    rep(1, -1, symOf(rg('0', '9'))),
		"a{0}":                    rep(0, 0, a),
		"a{1}":                    rep(1, 1, a),
		"a{3}":                    rep(3, 3, a),
		"a{0,}":                   rep(0, -1, a),
		"a{3,}":                   rep(3, -1, a),
		"a{0,0}":                  rep(0, 0, a),
		"a{0,1}":                  rep(0, 1, a),
		"a{2,3}":                  rep(2, 3, a),
		"a{3,3}":                  rep(3, 3, a),
		"a{9,10}":                 rep(9, 10, a),
		"a{0000}":                 rep(0, 0, a),
		"a{0007,09}":              rep(7, 9, a),
		"a{1000}":                 rep(1000, 1000, a),
		"a{999,1000}":             rep(999, 1000, a),
		"a{1000,}":                rep(1000, -1, a),
		"(a{2}){3}":               rep(3, 3, rep(2, 2, a)),
		"a{2}b{3}":                seq(rep(2, 2, a), rep(3, 3, b)),
		"^a$":                     seq(sym("^"), a, sym("$")),
		"-,1":                     seq(sym("-"), sym(","), sym("1")),
		"\u00e9\u20ac\U0001F600*": seq(sym("\u00e9"), sym("\u20ac"), rep(0, -1, sym("\U0001F600"))),
	} {
		checkTree(t, s, want)
	}
}

// TestP801Letters: every letter but the signs stands for itself, those too that no
// document has.
func TestP801Letters(t *testing.T) {
	for r := rune(0); r < all; r++ {
		b := char.Encode(r)
		if len(b) == 0 {
			continue
		}
		n, at, err := pat.Parse(string(b))
		switch {
		case r == '.', r == '|', r == '(', r == '[', r == '\\':
			// these are seen elsewhere
		case r < 0x80 && strings.ContainsRune("?*+)]{}", r):
			if err != api.ErrForm || at != 0 {
				t.Fatalf("%q: %s, %d, %v", b, tell(n), at, err)
			}
		default:
			if err != api.OK || !same(n, symOf(rg(r, r))) {
				t.Fatalf("%q: %s, %d, %v", b, tell(n), at, err)
			}
		}
	}
}

func TestP801Dot(t *testing.T) {
	want := symOf(rg(0, 9), rg(0xB, 0xC), rg(0xE, all-1))
	checkTree(t, ".", want)
	checkTree(t, "a.", seq(sym("a"), want))
	checkTree(t, ".*", rep(0, -1, want))
	checkTree(t, "[.]", sym("."))
	checkTree(t, "\\.", sym("."))
}

// escapeOf says what the escape of a letter is: its set, or false.
func escapeOf(r rune) (set.Set, bool) {
	switch r {
	case 'n':
		return letters("\n"), true
	case 'r':
		return letters("\r"), true
	case 't':
		return letters("\t"), true
	}
	if strings.ContainsRune(".\\?*+()|[]{}-^", r) {
		return letters(string(r)), true
	}
	if strings.ContainsRune("sicdwSICDW", r) {
		return set.Escape(byte(r))
	}
	return nil, false
}

// TestP801Escapes: of every letter, outside a class and in it; those whose last
// byte is an escape's letter too.
func TestP801Escapes(t *testing.T) {
	for r := rune(0); r < 0x3000; r++ {
		if r == 'p' || r == 'P' {
			continue
		}
		for _, c := range []struct {
			text string
			at   int
		}{{"\\" + string(r), 0}, {"a\\" + string(r), 1}, {"[\\" + string(r) + "]", 1}, {"[b\\" + string(r) + "]", 2}} {
			s, known := escapeOf(r)
			if !known {
				checkFault(t, c.text, c.at, api.ErrForm)
				continue
			}
			want := pat.Node{Kind: pat.Sym, Set: s}
			switch c.text[0] {
			case 'a':
				want = seq(sym("a"), want)
			case '[':
				if c.at == 2 {
					want.Set = set.Union(s, letters("b"))
				}
			}
			checkTree(t, c.text, want)
		}
	}
}

func TestP801Categories(t *testing.T) {
	for _, name := range []string{"Lu", "Ll", "L", "Nd", "N", "P", "S", "Z", "C"} {
		s, _ := set.Category(name)
		checkTree(t, "\\p{"+name+"}", pat.Node{Kind: pat.Sym, Set: s})
		checkTree(t, "\\P{"+name+"}", pat.Node{Kind: pat.Sym, Set: s.Not()})
		checkTree(t, "\\p{"+name+"}*", rep(0, -1, pat.Node{Kind: pat.Sym, Set: s}))
		checkTree(t, "[\\p{"+name+"}]", pat.Node{Kind: pat.Sym, Set: s})
		checkTree(t, "[^\\P{"+name+"}]", pat.Node{Kind: pat.Sym, Set: s})
		checkTree(t, "[\\p{"+name+"}-]", pat.Node{Kind: pat.Sym, Set: set.Union(s, letters("-"))})
	}
	checkTree(t, "\\p{Lu}\\P{Lu}", seq(symOf(rg('A', 'Z')), symOf(rg(0, '@'), rg('[', all-1))))
}

func TestP801CategoriesNotKnown(t *testing.T) {
	for _, name := range []string{"", " ", "lu", "LU", "Lt", "Lm", "M", "Nl", "Pc", "Sm", "Zs", "Cc", "L ", " L", "{", "L{", "\\", "IsBasicLatin", "\u00e9", "L\u00e9", "\x00", "|", ")", strings.Repeat("L", 4000)} {
		checkFault(t, "\\p{"+name+"}", 0, api.ErrOdd)
		checkFault(t, "ab\\P{"+name+"}", 2, api.ErrOdd)
		checkFault(t, "(\\p{"+name+"}", 1, api.ErrOdd)
		checkFault(t, "[\u20ac\\p{"+name+"}]", 4, api.ErrOdd)
		checkFault(t, "[a-\\p{"+name+"}]", 3, api.ErrOdd)
		// Only the end of a name tells which one it is.
		checkFault(t, "\\p{"+name, 3+len(name), api.ErrForm)
	}
}

func TestP801Classes(t *testing.T) {
	for s, want := range map[string]set.Set{
		"[a]":                   letters("a"),
		"[aa]":                  letters("a"),
		"[ba]":                  letters("ab"),
		"[a-c]":                 letters("abc"),
		"[a-a]":                 letters("a"),
		"[a-cx-z]":              letters("abcxyz"),
		"[a-cb-d]":              letters("abcd"),
		"[xa-cy]":               letters("abcxy"),
		"[^a]":                  letters("a").Not(),
		"[^a-c]":                letters("abc").Not(),
		"[^^]":                  letters("^").Not(),
		"[a^]":                  letters("a^"),
		"[a^b]":                 letters("a^b"),
		"[\\^a]":                letters("^a"),
		"[Z-^]":                 letters("Z[\\]^"),
		"[-]":                   letters("-"),
		"[^-]":                  letters("-").Not(),
		"[-a]":                  letters("-a"),
		"[^-a]":                 letters("-a").Not(),
		"[a-]":                  letters("-a"),
		"[^a-]":                 letters("-a").Not(),
		"[--]":                  letters("-"),
		"[-a-c]":                letters("-abc"),
		"[a-c-]":                letters("-abc"),
		"[-a-]":                 letters("-a"),
		"[\\d-]":                set.Of(rg('0', '9'), rg('-', '-')),
		"[-\\d]":                set.Of(rg('0', '9'), rg('-', '-')),
		"[a\\-c]":               letters("a-c"),
		"[\\--/]":               letters("-./"),
		"[+-\\-]":               letters("+,-"),
		"[+--]":                 letters("+,-"),
		"[+---[,]]":             letters("+-"),
		"[\\n-\\r]":             set.Of(rg(0xA, 0xD)),
		"[\\t\\n\\r]":           letters("\t\n\r"),
		"[\\[-\\]]":             letters("[\\]"),
		"[\\\\]":                letters("\\"),
		"[.?*+()|{}]":           letters(".?*+()|{}"),
		"[\\.\\?\\*\\+]":        letters(".?*+"),
		"[\\d\\s]":              set.Of(rg('0', '9'), rg(9, 0xA), rg(0xD, 0xD), rg(' ', ' ')),
		"[\\d\\D]":              set.Of(rg(0, all-1)),
		"[^\\d\\D]":             nil,
		"[\\d.]":                set.Of(rg('0', '9'), rg('.', '.')),
		"[a-c-[b]]":             letters("ac"),
		"[a-c-[a-c]]":           nil,
		"[abc-[b]]":             letters("ac"),
		"[a-[b]]":               letters("a"),
		"[\\w-[\\d]]":           set.Minus(escape('w'), escape('d')),
		"[a-c-[^b]]":            letters("b"),
		"[^a-c-[d-f]]":          letters("abcdef").Not(),
		"[^a-[^a]]":             nil,
		"[a-z-[b-y-[m]]]":       letters("amz"),
		"[a-z-[b-y-[c-x-[m]]]]": set.Minus(set.Of(rg('a', 'z')), letters("bym")),
		"[--[a]]":               letters("-"),
		"[--[-]]":               nil,
		"[---[a]]":              letters("-"),
		"[^--[a]]":              letters("-a").Not(),
		"[a--[b]]":              letters("-a"),
		"[a--[-]]":              letters("a"),
		"[a-c--[b]]":            letters("-ac"),
		"[\\d--[5]]":            set.Minus(set.Of(rg('0', '9'), rg('-', '-')), letters("5")),
		"[\u00e9]":              letters("\u00e9"),
		"[\u00e9-\u20ac]":       set.Of(rg(0xE9, 0x20AC)),
		"[a-\U0010FFFF]":        set.Of(rg('a', all-1)),
		"[\x00-\x7f]":           set.Of(rg(0, 0x7F)),
		"[\ud7ff-\ue000]":       set.Of(rg(0xD7FF, 0xE000)),
	} {
		checkTree(t, s, pat.Node{Kind: pat.Sym, Set: want})
	}
	checkTree(t, "[a-]b*", seq(sym("-a"), rep(0, -1, sym("b"))))
	checkTree(t, "[a][b]", seq(sym("a"), sym("b")))
	checkTree(t, "[^a]|[a-]", alt(pat.Node{Kind: pat.Sym, Set: letters("a").Not()}, sym("a-")))
}

func escape(c byte) set.Set {
	s, _ := set.Escape(c)
	return s
}

// TestP802Faults: the places, each fault by its own rule.
func TestP802Faults(t *testing.T) {
	for s, want := range map[string]int{
		// what ends too early
		"(": 1, "(a": 2, "((a)": 4, "(a|": 3, "a(b(c)*": 7, "[": 1, "[^": 2, "[a": 2, "[a-": 3, "[a-b": 4, "[-": 2, "[--": 3, "[---": 4, "[a--": 4, "[+--": 4, "[a-b-": 5, "[a-b--": 6, "[\\d-": 4,
		"[a-[": 4, "[a-[b": 5, "[a-[b]": 6, "[a-[b-[": 7, "[^-": 3, "\\": 1, "a\\": 2, "[\\": 2, "[a-\\": 4, "\\p": 2, "\\P": 2, "\\p{": 3, "\\p{L": 4, "\\p{Lt": 5, "[\\p{L": 5,
		"a{": 2, "a{1": 3, "a{12": 4, "a{1,": 4, "a{1,2": 5, "a{2,1": 5, "a{1000,": 7, "a{1000,1": 8, "\u20ac(": 4,
		// what cannot stand there
		")": 0, "a)": 1, "(a))": 3, "a|)": 2, "*": 0, "?": 0, "+": 0, "{": 0, "{2}": 0, "}": 0, "]": 0, "a]": 1, "a}": 1, "a**": 2, "a*?": 2, "a?+": 2, "a*{2}": 2, "a{2}{3}": 4, "a{2}*": 4, "|*": 1, "a|*": 2, "(*)": 1, "(?": 1, "(|+)": 2, "a{2}}": 4, "(a]": 2, "(a}": 2, "[a]]": 3, "[a-]]": 4, "\u20ac*\u20ac**": 8,
		"\\pL": 2, "\\p(L)": 2, "\\P}": 2, "\\p\u20ac": 2, "[\\p-]": 3,
		// numbers of times
		"a{}": 1, "a{x}": 1, "a{x": 1, "a{,}": 1, "a{,2}": 1, "a{ 1}": 1, "a{1 }": 1, "a{1, 2}": 1, "a{-1}": 1, "a{+1}": 1, "a{1,2,3}": 1, "a{1,,2}": 1, "a{1,x}": 1, "a{1x": 1, "a{{1}": 1, "a{1{": 1, "a{1*}": 1, "a{1)": 1, "a{\u0661}": 1, "a{1.0}": 1,
		"a{2,1}": 1, "a{1,0}": 1, "a{10,9}": 1, "a{1000,999}": 1, "a{1001}": 1, "a{9999}": 1, "a{1001,}": 1, "a{1001,1002}": 1, "a{1,1001}": 1, "a{12345}": 1, "a{00000}": 1, "a{00001}": 1, "a{1,00002}": 1, "a{1,10000}": 1, "a{12345": 1, "a{1001": 1, "a{1,1001": 1, "a{99999999999999999999}": 1, "ab{3,2}c": 2, "(a){3,2}": 3, "\u20ac{x}": 3,
		// classes
		"[]": 1, "[^]": 2, "[]a]": 1, "[^]a]": 2, "[a[": 2, "[a[b]]": 2, "[[a]]": 1, "[^[a]]": 2, "[-[a]]": 2, "[^-[a]]": 3, "[a-[]]": 4, "[a-[^]]": 5, "[a-[b]c]": 6, "[a-[b]-]": 6, "[a-[b]-[c]]": 6, "[a-[b][c]]": 6, "[a-[[b]]]": 4, "[a-[-[b]]]": 5,
		"[b-a]": 1, "[xb-a]": 2, "[^b-a]": 2, "[b-a": 1, "[a-cz-y]": 4, "[a--]": 1, "[a---[b]]": 1, "[a-\\-]": 1, "[\\r-\\n]": 1, "[x\\]-\\[]": 2, "[\u20ac-\u00e9]": 1, "[\u00e9\u20ac-a]": 3, "[a-c-[b-a]]": 6,
		"[a-b-c]": 4, "[a-b-c": 4, "[a-b-c-[d]]": 4, "[a-b--]": 4, "[a-b---[c]]": 4, "[--a]": 2, "[^--a]": 3, "[---]": 2, "[----[a]]": 2, "[-a-b-c]": 5, "[a--b]": 3, "[+--b]": 3, "[+----[a]]": 3, "[\\d-z]": 3, "[\\d-\\d]": 3, "[\\p{L}-z]": 6, "[\\d-z": 3, "[\\d--]": 3, "[a\\d-z]": 4,
		"[a-\\d]": 3, "[a-\\p{L}]": 3, "[a-\\S]": 3, "[^a-\\w]": 4, "[\\n-\\d]": 4, "[\u20ac-\\d]": 5, "[a-\\d": 3,
		// escapes
		"\\q": 0, "a\\q": 1, "\\a": 0, "\\0": 0, "\\ ": 0, "\\\"": 0, "\\$": 0, "\\N": 0, "\\\u00e9": 0, "\\\u0173": 0, "\\\u0164": 0, "[\\q]": 1, "[a-\\q]": 3, "[\\b]": 1, "(\\x41)": 1, "\u20ac\\q": 3,
	} {
		checkFault(t, s, want, api.ErrForm)
	}
}

// TestP802NoLetter: a letter that is none is at its own first byte, wherever the
// pattern comes upon it.
func TestP802NoLetter(t *testing.T) {
	for _, bad := range []string{"\xff", "\x80", "\xc0\x80", "\xe0\x80\x80", "\xed\xa0\x80", "\xf4\x90\x80\x80", "\xe2\x82", "\xc3"} {
		for _, front := range []string{"", "a", "\u20ac", "a*", "a|", "(", "(a", "()", "[", "[^", "[a", "[-", "[a-", "[a-b", "[a-b-", "[a-b--", "[a--", "[\\d-", "[a-[", "[a-[b]", "\\", "[\\", "[a-\\", "\\p", "\\p{", "\\p{L", "\\p{Lt", "a{", "a{1", "a{1,", "a{1,2"} {
			for _, back := range []string{"", "a", "]", "}", ")"} {
				checkFault(t, front+bad+back, len(front), api.ErrForm)
			}
		}
		checkFault(t, "*"+bad, 0, api.ErrForm)
		checkFault(t, "[b-a"+bad, 1, api.ErrForm)
		checkFault(t, "\\q"+bad, 0, api.ErrForm)
		checkFault(t, "\\p{Lt}"+bad, 0, api.ErrOdd)
	}
}

// TestP802FirstFault: of several the first one, as the pattern is read.
func TestP802FirstFault(t *testing.T) {
	checkFault(t, "\\p{Lt}*)", 0, api.ErrOdd)
	checkFault(t, "a)\\p{Lt}", 1, api.ErrForm)
	checkFault(t, "(\\q", 1, api.ErrForm)
	checkFault(t, strings.Repeat("(", 41)+"*", 40, api.ErrMany)
	checkFault(t, "*"+strings.Repeat("(", 41), 0, api.ErrForm)
	checkFault(t, strings.Repeat("(", 40)+"[", 40, api.ErrMany)
}

func TestP801Long(t *testing.T) {
	most := strings.Repeat("a", api.MaxToken)
	n, at, err := pat.Parse(most)
	if err != api.OK || at != 0 || n.Kind != pat.Seq || len(n.Kids) != api.MaxToken {
		t.Errorf("%d letters: %d kids, %d, %v", len(most), len(n.Kids), at, err)
	}
	checkFault(t, most+"a", 0, api.ErrMany)
	checkFault(t, most+")", 0, api.ErrMany)
	checkFault(t, ")"+most, 0, api.ErrMany)
	checkFault(t, most+"\xff", 0, api.ErrMany)
	checkFault(t, most[1:]+")", api.MaxToken-1, api.ErrForm)
	// It is bytes that count, not letters.
	euros := strings.Repeat("\u20ac", api.MaxToken/3)
	if _, _, err := pat.Parse(euros + "a"); err != api.OK {
		t.Errorf("%d bytes: %v", len(euros)+1, err)
	}
	checkFault(t, euros+"\u20ac", 0, api.ErrMany)
}

func TestP802Brackets(t *testing.T) {
	open := func(n int) string { return strings.Repeat("(", n) }
	shut := func(n int) string { return strings.Repeat(")", n) }
	minus := func(n int) string { return strings.Repeat("[a-", n-1) + "[a" + strings.Repeat("]", n) }
	checkTree(t, open(40)+"a"+shut(40), sym("a"))
	checkTree(t, open(39)+"[a]"+shut(39), sym("a"))
	checkTree(t, open(40)+"\\(\\["+shut(40), seq(sym("("), sym("[")))
	checkTree(t, open(39)+"[(\\[]"+shut(39), sym("(["))
	checkTree(t, minus(40), pat.Node{Kind: pat.Sym})
	checkTree(t, minus(39), sym("a"))
	checkTree(t, open(1)+minus(39)+shut(1), sym("a"))
	// Those that are shut again do not count.
	checkTree(t, open(40)+shut(40)+open(40)+shut(40), seq(empty(), empty()))
	checkTree(t, open(40)+shut(1)+open(1)+shut(40), seq(empty(), empty()))
	checkTree(t, open(39)+"[a][b]"+shut(39), seq(sym("a"), sym("b")))
	many := "[a]"
	for range 100 {
		many += "[a-[b]](c)"
	}
	if n, _, err := pat.Parse(many); err != api.OK || len(n.Kids) != 201 {
		t.Errorf("brackets beside one another: %v", err)
	}
	checkFault(t, open(41)+shut(41), 40, api.ErrMany)
	checkFault(t, open(41), 40, api.ErrMany)
	checkFault(t, open(4096), 40, api.ErrMany)
	checkFault(t, open(40), 40, api.ErrForm)
	checkFault(t, open(40)+"[a]"+shut(40), 40, api.ErrMany)
	checkFault(t, open(40)+"a|[", 42, api.ErrMany)
	checkFault(t, open(39)+"[a-[b]]"+shut(39), 42, api.ErrMany)
	checkFault(t, open(39)+"[a[b]]"+shut(39), 41, api.ErrForm)
	checkFault(t, minus(41), 120, api.ErrMany)
	checkFault(t, "\u20ac"+open(41), 43, api.ErrMany)
}

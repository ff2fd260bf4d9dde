package set_test

import (
	"slices"
	"strings"
	"testing"

	"rubric/char"
	"rubric/set"
)

// checkLetters goes over every letter, and over some numbers that are none.
func checkLetters(t *testing.T, name string, s set.Set, class func(rune) bool) {
	t.Helper()
	n := 0
	for c := rune(-0x100); c < all+0x100; c++ {
		want := c >= 0 && c < all && class(c)
		if want {
			n++
		}
		if s.Has(c) != want {
			t.Fatalf("%s: Has(%x): %v", name, c, !want)
		}
	}
	if !s.Right() || s.Size() != n {
		t.Errorf("%s: %v, of %d letters; want %d", name, s, s.Size(), n)
	}
}

const (
	marks = "!\"#%&'()*,-./:;?@[\\]_{}"
	signs = "$+<=>^|~\x60"
)

func digit(c rune) bool   { return c >= '0' && c <= '9' }
func upper(c rune) bool   { return c >= 'A' && c <= 'Z' }
func lower(c rune) bool   { return c >= 'a' && c <= 'z' }
func letter(c rune) bool  { return upper(c) || lower(c) }
func blank(c rune) bool   { return c == 0x20 || c == 0xA0 }
func control(c rune) bool { return c >= 0 && c <= 0x1F || c >= 0x7F && c <= 0x9F }
func point(c rune) bool   { return strings.ContainsRune(marks, c) }
func sign(c rune) bool    { return strings.ContainsRune(signs, c) }
func word(c rune) bool    { return !point(c) && !blank(c) && !control(c) }

// escapes: what each small letter's set is, by the document.
func escapes() map[byte]func(rune) bool {
	return map[byte]func(rune) bool{'s': char.White, 'i': char.Start, 'c': char.Part, 'd': digit, 'w': word}
}

func categories() map[string]func(rune) bool {
	return map[string]func(rune) bool{"Lu": upper, "Ll": lower, "L": letter, "Nd": digit, "N": digit, "P": point, "S": sign, "Z": blank, "C": control}
}

func TestP702Escape(t *testing.T) {
	for c, class := range escapes() {
		s, ok := set.Escape(c)
		if !ok {
			t.Fatalf("Escape(%q): none", c)
		}
		checkLetters(t, string(c), s, class)
	}
}

func TestP702EscapeOfTheOthers(t *testing.T) {
	for c, class := range escapes() {
		big := c - 'a' + 'A'
		s, ok := set.Escape(big)
		if !ok {
			t.Fatalf("Escape(%q): none", big)
		}
		checkLetters(t, string(big), s, func(c rune) bool { return !class(c) })
	}
}

// TestP702EscapeRanges writes the sets out, without package char.
func TestP702EscapeRanges(t *testing.T) {
	for c, want := range map[byte]set.Set{
		's': {rg(9, 0xA), rg(0xD, 0xD), rg(0x20, 0x20)},
		'S': {rg(0, 8), rg(0xB, 0xC), rg(0xE, 0x1F), rg(0x21, all-1)},
		'd': {rg('0', '9')},
		'D': {rg(0, '/'), rg(':', all-1)},
		'i': {rg(':', ':'), rg('A', 'Z'), rg('_', '_'), rg('a', 'z'), rg(0xC0, 0xD6), rg(0xD8, 0xF6), rg(0xF8, 0xD7FF), rg(0xE000, 0xFFFD), rg(0x10000, all-1)},
		'c': {rg('-', '.'), rg('0', ':'), rg('A', 'Z'), rg('_', '_'), rg('a', 'z'), rg(0xB7, 0xB7), rg(0xC0, 0xD6), rg(0xD8, 0xF6), rg(0xF8, 0xD7FF), rg(0xE000, 0xFFFD), rg(0x10000, all-1)},
		'w': {rg('$', '$'), rg('+', '+'), rg('0', '9'), rg('<', '>'), rg('A', 'Z'), rg('^', '^'), rg(0x60, 'z'), rg('|', '|'), rg('~', '~'), rg(0xA1, all-1)},
		'W': {rg(0, '#'), rg('%', '*'), rg(',', '/'), rg(':', ';'), rg('?', '@'), rg('[', ']'), rg('_', '_'), rg('{', '{'), rg('}', '}'), rg(0x7F, 0xA0)},
	} {
		if got, ok := set.Escape(c); !ok || !slices.Equal(got, want) {
			t.Errorf("Escape(%q): %v, %v; want %v", c, got, ok, want)
		}
	}
}

func TestP702EscapeNone(t *testing.T) {
	for c := range 256 {
		s, ok := set.Escape(byte(c))
		if want := strings.IndexByte("sicdwSICDW", byte(c)) >= 0; ok != want {
			t.Errorf("Escape(%q): %v", byte(c), ok)
		}
		if !ok && len(s) != 0 {
			t.Errorf("Escape(%q): %v beside false", byte(c), s)
		}
	}
}

func TestP702Category(t *testing.T) {
	for name, class := range categories() {
		s, ok := set.Category(name)
		if !ok {
			t.Fatalf("Category(%q): none", name)
		}
		checkLetters(t, name, s, class)
	}
}

// TestP702OneCategoryEach: up to A0 each letter has just one of the great
// categories, beyond it none has any.
func TestP702OneCategoryEach(t *testing.T) {
	for c := range rune(0x200) {
		n := 0
		for _, name := range []string{"L", "N", "P", "S", "Z", "C"} {
			if s, _ := set.Category(name); s.Has(c) {
				n++
			}
		}
		if want := c <= 0xA0; n > 1 || (n == 1) != want {
			t.Fatalf("%x is in %d", c, n)
		}
	}
	for name := range categories() {
		if s, _ := set.Category(name); s[len(s)-1].Hi > 0xA0 {
			t.Errorf("%s: %v", name, s)
		}
	}
}

func TestP702CategoryNone(t *testing.T) {
	names := []string{"", " ", "L ", " L", "LU", "lu", "l", "n", "ND", "nd", "Lt", "Lm", "Lo", "M", "Mn", "Nl", "No", "Pc", "Pd", "Ps", "Sm", "Sc", "Zs", "Zl", "Cc", "Cf", "Cn", "IsBasicLatin", "Lul", "LuLl", "L\x00", "\xff", "\u00c9", strings.Repeat("L", 1<<16)}
	for a := range 128 {
		names = append(names, string(rune(a)))
		for b := range 128 {
			names = append(names, string([]byte{byte(a), byte(b)}))
		}
	}
	for _, name := range names {
		s, ok := set.Category(name)
		if _, want := categories()[name]; ok != want {
			t.Errorf("Category(%.20q): %v", name, ok)
		}
		if !ok && len(s) != 0 {
			t.Errorf("Category(%.20q): %v beside false", name, s)
		}
	}
}

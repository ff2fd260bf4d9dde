package set

import (
	"slices"

	"rubric/char"
)

// Escape answers the set of a backslash and c, and true; or false, if there is
// none.
func Escape(c byte) (Set, bool) {
	switch c {
	case 's':
		return ofClass(char.White), true
	case 'i':
		return ofClass(char.Start), true
	case 'c':
		return ofClass(char.Part), true
	case 'd':
		return Category("Nd")
	case 'w':
		return ofWords(), true
	case 'S', 'I', 'C', 'D', 'W':
		s, _ := Escape(c - 'A' + 'a')
		return s.Not(), true
	}
	return nil, false
}

// ofWords answers all letters but those between words.
func ofWords() Set {
	p, _ := Category("P")
	z, _ := Category("Z")
	c, _ := Category("C")
	return Of(slices.Concat(p, z, c)...).Not()
}

// ofClass answers the letters of one of char's classes.
func ofClass(class func(rune) bool) Set {
	var l []Range
	for lo := rune(0); lo <= last; {
		hi := calm(lo)
		if class(lo) {
			l = append(l, Range{lo, hi})
		}
		lo = hi + 1
	}
	return Of(l...)
}

// calm answers how far from r on no class of char's turns: to ask for each
// letter there is would cost a pattern too much.
func calm(r rune) rune {
	switch {
	case r < 0x100:
		return r
	case r < 0xD800:
		return 0xD7FF
	case r < 0xE000:
		return 0xDFFF
	case r < 0xFFFE:
		return 0xFFFD
	case r < 0x10000:
		return 0xFFFF
	}
	return last
}

// Category answers the letters of a category, and true; or false, if its name is
// not known.
func Category(name string) (Set, bool) {
	switch name {
	case "Lu":
		return Of(Range{'A', 'Z'}), true
	case "Ll":
		return Of(Range{'a', 'z'}), true
	case "L":
		return Of(Range{'A', 'Z'}, Range{'a', 'z'}), true
	case "Nd", "N":
		return Of(Range{'0', '9'}), true
	case "P":
		return ofText("!\"#%&'()*,-./:;?@[\\]_{}"), true
	case "S":
		return ofText("$+<=>^`|~"), true
	case "Z":
		return Of(Range{0x20, 0x20}, Range{0xA0, 0xA0}), true
	case "C":
		return Of(Range{0x0, 0x1F}, Range{0x7F, 0x9F}), true
	}
	return nil, false
}

// ofText answers the letters of a text.
func ofText(text string) Set {
	var l []Range
	for _, r := range text {
		l = append(l, Range{r, r})
	}
	return Of(l...)
}

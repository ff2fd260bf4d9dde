// Package char: letters, names, blanks. See doc/01-char.md.
package char

import "strings"

const (
	Preserve = 1
	Replace  = 2
	Collapse = 3
)

// Decode answers b's first letter and its length in bytes, or -1, 0.
func Decode(b []byte) (rune, int) {
	if len(b) == 0 {
		return -1, 0
	}
	n := announced(b[0])
	if n == 0 || n > len(b) {
		return -1, 0
	}
	r := rune(b[0])
	if n > 1 {
		r &= 0x7F >> n
	}
	for _, c := range b[1:n] {
		if c>>6 != 2 {
			return -1, 0
		}
		r = r<<6 | rune(c&0x3F)
	}
	// One comparison refuses all that is no letter: what is longer than it
	// must be, and what has no width at all (D800 to DFFF, above 10FFFF).
	if width(r) != n {
		return -1, 0
	}
	return r, n
}

// announced is how many bytes a letter has that begins with c; 0, if none does.
func announced(c byte) int {
	switch {
	case c>>7 == 0:
		return 1
	case c>>5 == 6:
		return 2
	case c>>4 == 14:
		return 3
	case c>>3 == 30:
		return 4
	}
	return 0
}

// width is how many bytes r's encoding has; 0, if it has none.
func width(r rune) int {
	switch {
	case r < 0:
		return 0
	case r < 0x80:
		return 1
	case r < 0x800:
		return 2
	case r >= 0xD800 && r <= 0xDFFF:
		return 0
	case r < 0x10000:
		return 3
	case r <= 0x10FFFF:
		return 4
	}
	return 0
}

// Encode answers r's bytes, or nothing.
func Encode(r rune) []byte {
	switch width(r) {
	case 1:
		return []byte{byte(r)}
	case 2:
		return []byte{byte(0xC0 | r>>6), later(r)}
	case 3:
		return []byte{byte(0xE0 | r>>12), later(r >> 6), later(r)}
	case 4:
		return []byte{byte(0xF0 | r>>18), later(r >> 12), later(r >> 6), later(r)}
	}
	return nil
}

// later is a byte behind the first one: it holds r's lowest six bits.
func later(r rune) byte {
	return byte(0x80 | r&0x3F)
}

// Right answers the first place at which no Char stands, and false; or len(b), true.
func Right(b []byte) (int, bool) {
	at := 0
	for at < len(b) {
		r, n := Decode(b[at:])
		if n == 0 || !Char(r) {
			return at, false
		}
		at += n
	}
	return at, true
}

// Char tells whether r may stand in a document.
func Char(r rune) bool {
	switch {
	case r == 0x9, r == 0xA, r == 0xD:
		return true
	case r >= 0x20 && r <= 0xD7FF:
		return true
	case r >= 0xE000 && r <= 0xFFFD:
		return true
	case r >= 0x10000 && r <= 0x10FFFF:
		return true
	}
	return false
}

// Start tells whether r may begin a name.
func Start(r rune) bool {
	switch {
	case r >= 'A' && r <= 'Z', r >= 'a' && r <= 'z':
		return true
	case r == '_', r == ':':
		return true
	case r == 0xD7, r == 0xF7:
		return false
	case r >= 0xC0:
		return Char(r)
	}
	return false
}

// Part tells whether r may stand in a name.
func Part(r rune) bool {
	switch {
	case r >= '0' && r <= '9':
		return true
	case r == '-', r == '.', r == 0xB7:
		return true
	}
	return Start(r)
}

// White tells whether r is a blank, a tab or an end of line.
func White(r rune) bool {
	switch r {
	case 0x9, 0xA, 0xD, 0x20:
		return true
	}
	return false
}

// Name tells whether s is a Start, then Parts.
func Name(s string) bool {
	// The first letter of a text that begins with none is -1, which is no Start.
	r, _ := Decode([]byte(s))
	return Start(r) && Token(s)
}

// NCName tells whether s is a Name without a colon.
func NCName(s string) bool {
	return Name(s) && !strings.Contains(s, ":")
}

// Token tells whether s is one or more Parts.
func Token(s string) bool {
	// A range over s would take a wrong byte for FFFD, which is a Part.
	b := []byte(s)
	for at := 0; at < len(b); {
		r, n := Decode(b[at:])
		if n == 0 || !Part(r) {
			return false
		}
		at += n
	}
	return len(b) > 0
}

// QName takes s apart at its colon; without one it is all local.
func QName(s string) (prefix, local string, ok bool) {
	before, after, colon := strings.Cut(s, ":")
	switch {
	case !NCName(before):
		return "", "", false
	case !colon:
		return "", before, true
	case !NCName(after):
		return "", "", false
	}
	return before, after, true
}

// Space answers s with its blanks as how says.
func Space(s string, how int) string {
	switch how {
	case Replace:
		return replace(s)
	case Collapse:
		return collapse(s)
	}
	return s
}

// replace goes by bytes: no byte of a longer letter is White.
func replace(s string) string {
	b := []byte(s)
	for i, c := range b {
		if White(rune(c)) {
			b[i] = ' '
		}
	}
	return string(b)
}

// collapse writes a blank only once something follows it, so none comes last.
func collapse(s string) string {
	out := make([]byte, 0, len(s))
	gap := false
	for _, c := range []byte(s) {
		if White(rune(c)) {
			gap = true
			continue
		}
		if gap && len(out) > 0 {
			out = append(out, ' ')
		}
		gap = false
		out = append(out, c)
	}
	return string(out)
}

// Words answers what stands between s's blanks.
func Words(s string) []string {
	t := collapse(s)
	if t == "" {
		// Split would answer one empty word.
		return nil
	}
	return strings.Split(t, " ")
}

// Count answers how many letters s has; a byte that begins none is one.
func Count(s string) int {
	b := []byte(s)
	count := 0
	for at := 0; at < len(b); count++ {
		_, n := Decode(b[at:])
		at += max(n, 1)
	}
	return count
}

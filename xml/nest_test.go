package xml_test

import (
	"regexp"
	"strconv"
	"strings"
	"testing"
	"unicode/utf8"

	"rubric/api"
	"rubric/xml"
)

// dice are numbers that look thrown, the same in each run.
type dice uint64

func (d *dice) throw(n int) int {
	*d = *d*6364136223846793005 + 1442695040888963407
	return int(*d>>33) % n
}

// one answers one of the texts.
func (d *dice) one(of ...string) string {
	return of[d.throw(len(of))]
}

// writer writes a document, and the events that it must have.
type writer struct {
	*dice
	doc, text string
	textAt    int
	events    []xml.Event
}

func (w *writer) tag(e xml.Event) {
	if w.text != "" {
		w.events = append(w.events, xml.Event{Kind: xml.Text, At: w.textAt, Text: w.text})
	}
	w.text, w.textAt = "", -1
	w.events = append(w.events, e)
}

// piece writes a piece of a text, which comes out as it says.
func (w *writer) piece(written, out string) {
	if w.textAt < 0 {
		w.textAt = len(w.doc)
	}
	w.doc += written
	w.text += out
}

func (w *writer) aside() {
	w.doc += w.one("", "", "<!---->", "<!-- <x> & - ]]> -->", "<?p?>", "<?p \u20ac ? <y/> ]]>?>")
}

func (w *writer) texts() {
	for range w.throw(4) {
		w.aside()
		switch w.throw(7) {
		case 0:
			w.piece("&lt;", "<")
		case 1:
			w.piece("&#xD;", "\r")
		case 2:
			w.piece("<![CDATA[ ]] <&\r\n]]]>", " ]] <&\n]")
		case 3:
			w.piece("\r", "\n")
		case 4:
			w.piece("x \u20ac\t\U0001F600\r\n", "x \u20ac\t\U0001F600\n")
		case 5:
			w.piece("]]&gt;", "]]>")
		}
	}
	w.aside()
}

func (w *writer) attrs() []xml.Attr {
	var l []xml.Attr
	for _, name := range []string{"x", "xy", "y:z", "\u00e9"}[:w.throw(5)] {
		w.doc += w.one(" ", "\n", " \t ")
		a := xml.Attr{Name: name, At: len(w.doc)}
		w.doc += name + w.one("=", " =\r", "= ")
		switch w.throw(3) {
		case 0:
			w.doc += "''"
		case 1:
			w.doc += "'\"\r\n\u20ac&apos;'"
			a.Value = "\" \u20ac'"
		case 2:
			w.doc += "\"'&#10;\t\n&amp;>\""
			a.Value = "'\n  &>"
		}
		l = append(l, a)
	}
	return l
}

func (w *writer) element(depth int) {
	e := xml.Event{Kind: xml.Start, At: len(w.doc), Name: w.one("a", "ab", "a:b", "\u00e9t\u00e9")}
	w.doc += "<" + e.Name
	e.Attrs = w.attrs()
	w.doc += w.one("", " ", "\n")
	w.tag(e)
	if w.throw(3) == 0 {
		w.tag(xml.Event{Kind: xml.End, At: len(w.doc), Name: e.Name})
		w.doc += "/>"
		return
	}
	w.doc += ">"
	for range w.throw(4 - depth) {
		w.texts()
		w.element(depth + 1)
	}
	w.texts()
	w.tag(xml.Event{Kind: xml.End, At: len(w.doc), Name: e.Name})
	w.doc += "</" + e.Name + w.one("", "", " ") + ">"
}

// written answers a document, its events, and the place behind its root.
func written(d *dice) (string, []xml.Event, int) {
	w := &writer{dice: d, textAt: -1}
	w.doc = w.one("", "<?xml version='1.0'?>", "<?xml version=\"1.0\" encoding='utf-8' standalone = 'no' ?>\n")
	w.aside()
	w.element(0)
	root := len(w.doc)
	w.aside()
	w.doc += w.one("", "\n")
	return w.doc, w.events, root
}

func TestP202WrittenDocuments(t *testing.T) {
	d := dice(1)
	for range 3000 {
		doc, want, _ := written(&d)
		checkEvents(t, doc, tell(want))
	}
}

func TestP205Nested(t *testing.T) {
	d := dice(2)
	for range 500 {
		doc, _, _ := written(&d)
		l, _, _ := xml.All([]byte(doc), api.Limits{})
		var open []string
		for i, e := range l {
			if i > 0 && len(open) == 0 || i > 0 && e.Kind == xml.Text && l[i-1].Kind == xml.Text {
				t.Fatalf("%q: %s", doc, tell(l))
			}
			switch e.Kind {
			case xml.Start:
				open = append(open, e.Name)
			case xml.End:
				if open[len(open)-1] != e.Name {
					t.Fatalf("%q: %s", doc, tell(l))
				}
				open = open[:len(open)-1]
			}
		}
		if len(open) > 0 {
			t.Fatalf("%q: %s", doc, tell(l))
		}
	}
}

func TestP205Fronts(t *testing.T) {
	d := dice(3)
	for range 300 {
		doc, want, root := written(&d)
		whole := tell(want) + " "
		for i := range len(doc) {
			l, at, err := xml.All([]byte(doc[:i]), api.Limits{})
			if !strings.HasPrefix(whole, tell(l)+" ") && len(l) > 0 {
				t.Fatalf("%q: %s; of %s", doc[:i], tell(l), whole)
			}
			if i >= root && len(l) != len(want) || i < root && err != api.ErrForm {
				t.Fatalf("%q: %s, %d, %v", doc[:i], tell(l), at, err)
			}
		}
	}
}

const (
	nameForm = `[A-Z_a-z:\x{C0}-\x{D6}\x{D8}-\x{F6}\x{F8}-\x{D7FF}\x{E000}-\x{FFFD}\x{10000}-\x{10FFFF}][-.0-9\x{B7}A-Z_a-z:\x{C0}-\x{D6}\x{D8}-\x{F6}\x{F8}-\x{D7FF}\x{E000}-\x{FFFD}\x{10000}-\x{10FFFF}]*`
	blank    = `[\t\n\r ]`
	ref      = `&(?:lt|gt|amp|quot|apos|#[0-9]+|#x[0-9a-fA-F]+);`
	value    = `(?:"(?:[^<&"]|` + ref + `)*"|'(?:[^<&']|` + ref + `)*')`
	note     = `<!--(?:[^-]|-[^-])*-->`
	order    = `<\?(` + nameForm + `)(?:` + blank + `(?s:.*?))?\?>`
	front    = `^<\?xml` + blank + `+version` + blank + `*=` + blank + `*(?:'1\.0'|"1\.0")(?:` + blank + `+encoding` + blank + `*=` + blank + `*(?:'(?i:utf-8)'|"(?i:utf-8)"))?(?:` + blank + `+standalone` + blank + `*=` + blank + `*(?:'yes'|"yes"|'no'|"no"))?` + blank + `*\?>`
)

// grammar says by regular expressions, not by a parser, what a document is.
type grammar struct {
	front, aside, start, attr, end, text, number *regexp.Regexp
}

func newGrammar() grammar {
	return grammar{
		front: regexp.MustCompile(front),
		aside: regexp.MustCompile(`^(?:` + note + `|` + order + `)`),
		start: regexp.MustCompile(`^<(` + nameForm + `)((?:` + blank + `+` + nameForm + blank + `*=` + blank + `*` + value + `)*)` + blank + `*(/?)>`),
		attr:  regexp.MustCompile(blank + `+(` + nameForm + `)` + blank + `*=` + blank + `*` + value),
		end:   regexp.MustCompile(`^</(` + nameForm + `)` + blank + `*>`),
		text:  regexp.MustCompile(`^(?:<!\[CDATA\[(?s:.*?)\]\]>|` + ref + `|[^<&])`),

		number: regexp.MustCompile(`&#(x?)([0-9a-fA-F]+);`),
	}
}

// none tells whether r, of those that Go's UTF-8 takes, is no Char.
func none(r rune) bool {
	return r < ' ' && !strings.ContainsRune("\t\n\r", r) || r == 0xFFFE || r == 0xFFFF
}

// chars tells whether s's references by number, if they are some, are of Chars.
func (g grammar) chars(s string) bool {
	for _, m := range g.number.FindAllStringSubmatch(s, -1) {
		base := 10
		if m[1] != "" {
			base = 16
		}
		n, err := strconv.ParseUint(m[2], base, 31)
		if err != nil || !utf8.ValidRune(rune(n)) || none(rune(n)) {
			return false
		}
	}
	return true
}

// takes tells whether s is a document.
func (g grammar) takes(s string) bool {
	if !utf8.ValidString(s) || strings.ContainsFunc(s, none) {
		return false
	}
	s = s[len(g.front.FindString(s)):]
	var open []string
	rooted := false
	for s != "" {
		n, ok := 0, true
		if m := g.aside.FindStringSubmatch(s); m != nil {
			n, ok = len(m[0]), !strings.EqualFold(m[1], "xml")
		} else if m := g.start.FindStringSubmatch(s); m != nil {
			n, ok = len(m[0]), !(rooted && len(open) == 0) && g.once(m[2]) && g.chars(m[2])
			rooted = true
			if m[3] == "" {
				open = append(open, m[1])
			}
		} else if m := g.end.FindStringSubmatch(s); m != nil {
			n, ok = len(m[0]), len(open) > 0 && open[len(open)-1] == m[1]
			open = open[:max(len(open)-1, 0)]
		} else if len(open) > 0 {
			m := g.text.FindString(s)
			n = len(m)
			ok = n > 0 && !strings.HasPrefix(s, "]]>") && (m[0] != '&' || g.chars(m))
		} else {
			n = len(s) - len(strings.TrimLeft(s, "\t\n\r "))
			ok = n > 0
		}
		if !ok {
			return false
		}
		s = s[n:]
	}
	return rooted && len(open) == 0
}

// once tells whether no attribute stands twice.
func (g grammar) once(attrs string) bool {
	seen := map[string]int{}
	for _, m := range g.attr.FindAllStringSubmatch(attrs, -1) {
		seen[m[1]]++
		if seen[m[1]] > 1 {
			return false
		}
	}
	return true
}

// spoil alters a document in one place.
func spoil(d *dice, doc string) string {
	i := d.throw(len(doc))
	j := min(i+d.throw(3), len(doc))
	return doc[:i] + d.one("", "", "<", ">", "/", "!", "?", "-", "--", "]", "]]>", "&", ";", "#", "&#0;", "&#x", "&#1", "FFFE;", "4112;", "x", "a", "1", "=", "'", "\"", " ", "\n", "\r", ":", "<b>", "</a>", "<a/>", "&lt;", "<!--", "-->", "<?", "?>", "xml", "<![CDATA[", "[", "\x01", "\xff", "\u00d7", doc[i:j]+doc[i:j]) + doc[j:]
}

func TestP201ByGrammar(t *testing.T) {
	g := newGrammar()
	d := dice(4)
	taken := 0
	for range 60000 {
		doc, _, _ := written(&d)
		if len(doc) > 200 {
			continue
		}
		for range 1 + d.throw(2) {
			doc = spoil(&d, doc+" ")
		}
		_, at, err := xml.All([]byte(doc), api.Limits{})
		if (err == api.OK) != g.takes(doc) || at < 0 || at > len(doc) {
			t.Fatalf("%q: %d, %v", doc, at, err)
		}
		if err == api.OK {
			taken++
		}
	}
	if taken < 1000 {
		t.Errorf("only %d were documents", taken)
	}
}

// TestP203FaultIsOfTheFront: whatever follows a fault turns nothing of it.
func TestP203FaultIsOfTheFront(t *testing.T) {
	d := dice(5)
	for range 2000 {
		doc, _, _ := written(&d)
		doc = spoil(&d, doc+" ")
		l, at, err := xml.All([]byte(doc), api.Limits{})
		if err == api.OK {
			continue
		}
		for _, more := range []string{"x", ">", "\xff", " x='1'/></a>"} {
			m, at2, err2 := xml.All([]byte(doc+more), api.Limits{})
			if at < len(doc) && !strings.HasSuffix(doc, "\xff") && (at2 != at || err2 != err || tell(m) != tell(l)) {
				t.Fatalf("%q + %q: %d, %v; behind %d, %v", doc, more, at2, err2, at, err)
			}
		}
	}
}

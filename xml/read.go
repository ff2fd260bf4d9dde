package xml

import (
	"bytes"
	"slices"
	"strings"

	"rubric/char"
)

// read goes on to the next thing that stands in the document, and makes ready
// the events that are whole by it.
func (p *Parser) read() {
	switch {
	case p.long:
		p.many(0)
	case len(p.open) > 0:
		p.content()
	default:
		if p.at == 0 && p.declared() {
			p.declaration()
		}
		p.outside()
	}
}

// declared tells whether the document begins with its declaration. A longer
// Name, as of `<?xml-stylesheet`, is an instruction's.
func (p *Parser) declared() bool {
	rest, begins := bytes.CutPrefix(p.b, []byte("<?xml"))
	return begins && len(rest) > 0 && char.White(rune(rest[0]))
}

func (p *Parser) declaration() {
	p.at = len("<?xml")
	p.blanks()
	p.setting("version", p.version)
	gap := p.blanks()
	if gap && p.peek() == 'e' {
		p.setting("encoding", p.encoding)
		gap = p.blanks()
	}
	if gap && p.peek() == 's' {
		p.setting("standalone", p.standalone)
		p.blanks()
	}
	p.sign('?')
	p.sign('>')
}

// setting goes over a word of the declaration and its value.
func (p *Parser) setting(word string, value func()) {
	p.word(word, p.at)
	p.equals()
	quote := p.quote()
	value()
	p.sign(quote)
}

func (p *Parser) equals() {
	p.blanks()
	p.sign('=')
	p.blanks()
}

func (p *Parser) version() {
	p.word("1.0", p.at)
}

func (p *Parser) encoding() {
	const great, small = "UTF-8", "utf-8"
	begin := p.at
	for i := range len(great) {
		if r := p.take(); r != rune(great[i]) && r != rune(small[i]) {
			p.fail(begin)
		}
	}
}

func (p *Parser) standalone() {
	if p.peek() == 'n' {
		p.word("no", p.at)
		return
	}
	p.word("yes", p.at)
}

// outside goes over one thing ahead of the root, the root's tag, or one thing
// behind it.
func (p *Parser) outside() {
	p.blanks()
	if p.ended() && p.nodes > 0 {
		p.over = true
		return
	}
	lt := p.at
	p.sign('<')
	switch p.peek() {
	case '?':
		p.instruction()
	case '!':
		p.take()
		p.note(lt)
	case '/':
		p.fail(lt)
	default:
		if p.nodes > 0 {
			p.fail(lt)
		}
		p.startTag(lt)
	}
}

// content goes over one thing within an element.
func (p *Parser) content() {
	begin := p.at
	switch p.peek() {
	case '<':
		p.take()
		p.markup(begin)
	case '&':
		p.begin(begin)
		p.put(&p.text, p.reference())
	case '>':
		// What stands ahead of a text never ends with a `]`, so that these are
		// the text's own.
		if bytes.HasSuffix(p.b[:begin], []byte("]]")) {
			p.fail(begin - 2)
		}
		fallthrough
	default:
		p.begin(begin)
		p.put(&p.text, p.takeLine())
	}
}

// begin opens a text at its first piece, even if nothing comes out of that.
func (p *Parser) begin(at int) {
	if !p.text.begun {
		p.text = run{begun: true, at: at}
	}
}

func (p *Parser) markup(lt int) {
	switch p.peek() {
	case '?':
		p.instruction()
	case '!':
		p.take()
		if p.peek() == '[' {
			p.cdata(lt)
			return
		}
		p.note(lt)
	case '/':
		p.take()
		p.endTag(lt)
	default:
		p.startTag(lt)
	}
}

// note goes over a note, from behind its `<!` on.
func (p *Parser) note(lt int) {
	p.word("--", lt)
	dashes := 0
	for {
		at := p.at
		r := p.take()
		switch {
		case dashes == 2 && r == '>':
			return
		case dashes == 2:
			p.fail(at - 2)
		case r == '-':
			dashes++
		default:
			dashes = 0
		}
	}
}

// instruction goes over an instruction, from its `?` on.
func (p *Parser) instruction() {
	p.take()
	at := p.at
	name := p.name()
	// A bad letter behind the Name, or the end, goes ahead of what it says.
	p.peek()
	if strings.EqualFold(name, "xml") {
		p.fail(at)
	}
	if !p.blanks() {
		p.sign('?')
		p.sign('>')
		return
	}
	for asked := false; ; {
		r := p.take()
		if asked && r == '>' {
			return
		}
		asked = r == '?'
	}
}

// cdata goes over CDATA, from behind its `<!` on. A `]` comes out once it is
// known that it does not belong to the end.
func (p *Parser) cdata(lt int) {
	p.word("[CDATA[", lt)
	p.begin(lt)
	held := 0
	for {
		r := p.takeLine()
		if r == ']' && held < 2 {
			held++
			continue
		}
		if r == '>' && held == 2 {
			return
		}
		// Behind a third `]` two of them may still belong to the end.
		for ; r != ']' && held > 0; held-- {
			p.put(&p.text, ']')
		}
		p.put(&p.text, r)
	}
}

// startTag goes over a tag, from behind its `<` on.
func (p *Parser) startTag(lt int) {
	if !char.Start(p.peek()) {
		p.fail(p.at)
	}
	if len(p.open) == p.limits.Depth || p.nodes == p.limits.Nodes {
		p.many(lt)
	}
	p.nodes++
	e := Event{Kind: Start, At: lt, Name: p.name()}
	for {
		gap := p.blanks()
		at := p.at
		r := p.peek()
		switch {
		case r == '>':
			p.take()
			p.open.push(e.Name)
			p.tell(e)
			return
		case r == '/':
			p.take()
			p.sign('>')
			p.tell(e, Event{Kind: End, At: at, Name: e.Name})
			return
		case !gap || !char.Start(r):
			p.fail(at)
		case len(e.Attrs) == p.limits.Attrs:
			p.many(at)
		}
		e.Attrs = append(e.Attrs, p.attribute(e.Attrs))
	}
}

// attribute goes over an attribute that stands behind those of ahead.
func (p *Parser) attribute(ahead []Attr) Attr {
	a := Attr{At: p.at}
	a.Name = p.name()
	// The Name was read only with the letter behind it.
	p.peek()
	if slices.ContainsFunc(ahead, func(b Attr) bool { return b.Name == a.Name }) {
		p.fail(a.At)
	}
	p.equals()
	a.Value = p.value()
	return a
}

func (p *Parser) value() string {
	v := run{at: p.at}
	quote := p.quote()
	for {
		switch r := p.peek(); {
		case r == quote:
			p.take()
			return string(v.out)
		case r == '<':
			p.fail(p.at)
		case r == '&':
			p.put(&v, p.reference())
		case char.White(r):
			p.takeLine()
			p.put(&v, ' ')
		default:
			p.put(&v, p.take())
		}
	}
}

// endTag goes over a tag, from behind its `</` on.
func (p *Parser) endTag(lt int) {
	name, want := p.name(), p.open.top()
	// A Name that the end of the text cut off may still have become the right one.
	cut := p.ended() && strings.HasPrefix(want, name)
	if name != want && !cut {
		p.fail(lt)
	}
	p.blanks()
	p.sign('>')
	p.open.pop()
	p.tell(Event{Kind: End, At: lt, Name: name})
}

// tell makes a whole tag's events ready, and the text that it ends.
func (p *Parser) tell(tag ...Event) {
	if len(p.text.out) > 0 {
		p.ready = append(p.ready, Event{Kind: Text, At: p.text.at, Text: string(p.text.out)})
	}
	p.text = run{}
	p.ready = append(p.ready, tag...)
}

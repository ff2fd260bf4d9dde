package xml

import (
	"rubric/api"
	"rubric/char"
)

// fault is what a reader leaves by: it is thrown, and Next catches it.
type fault struct {
	at  int
	err api.Errno
}

// names are those of open elements, the innermost last.
type names []string

func (n *names) push(name string) {
	*n = append(*n, name)
}

func (n *names) pop() {
	*n = (*n)[:len(*n)-1]
}

func (n names) top() string {
	return n[len(n)-1]
}

// run is a value or a text as it comes out, and where it began (begun tells
// whether a text did).
type run struct {
	begun bool
	at    int
	out   []byte
}

func (p *Parser) fail(at int) {
	panic(fault{at, api.ErrForm})
}

func (p *Parser) many(at int) {
	panic(fault{at, api.ErrMany})
}

func (p *Parser) ended() bool {
	return p.at == len(p.b)
}

// letter answers the letter that comes next, and its length. Whoever asks needs
// one, so that the end of the text comes too early for it.
func (p *Parser) letter() (rune, int) {
	r, n := char.Decode(p.b[p.at:])
	// What is no letter decodes as -1, which is no Char; at the end of the text
	// the place is its length.
	if !char.Char(r) {
		p.fail(p.at)
	}
	return r, n
}

func (p *Parser) peek() rune {
	r, _ := p.letter()
	return r
}

func (p *Parser) take() rune {
	r, n := p.letter()
	p.at += n
	return r
}

// takeLine takes a letter of a text: every end of a line is one A.
func (p *Parser) takeLine() rune {
	r := p.take()
	if r != '\r' {
		return r
	}
	if !p.ended() && p.b[p.at] == '\n' {
		p.at++
	}
	return '\n'
}

// blanks goes over blanks, and tells whether there were some.
func (p *Parser) blanks() bool {
	begin := p.at
	for !p.ended() && char.White(p.peek()) {
		p.take()
	}
	return p.at > begin
}

// word goes over w, which must stand here; if it does not, blame is the place.
func (p *Parser) word(w string, blame int) {
	for _, want := range w {
		if p.take() != want {
			p.fail(blame)
		}
	}
}

// sign goes over r, which must stand here.
func (p *Parser) sign(r rune) {
	if p.peek() != r {
		p.fail(p.at)
	}
	p.take()
}

// name goes over a Name. It may stop at the end of the text: only the letter
// behind it tells that the Name was whole.
func (p *Parser) name() string {
	begin := p.at
	if !char.Start(p.peek()) {
		p.fail(begin)
	}
	for !p.ended() && char.Part(p.peek()) {
		p.take()
		if p.at-begin > p.limits.Token {
			p.many(begin)
		}
	}
	return string(p.b[begin:p.at])
}

// quote goes over the quote that a value begins with.
func (p *Parser) quote() rune {
	r := p.peek()
	if r != '"' && r != '\'' {
		p.fail(p.at)
	}
	return p.take()
}

// put adds a letter that comes out.
func (p *Parser) put(o *run, r rune) {
	o.out = append(o.out, char.Encode(r)...)
	if len(o.out) > p.limits.Token {
		p.many(o.at)
	}
}

// reference goes over a reference, from its `&` on, and answers its letter.
func (p *Parser) reference() rune {
	amp := p.at
	p.take()
	switch p.take() {
	case '#':
		return p.number(amp)
	case 'l':
		p.word("t;", amp)
		return '<'
	case 'g':
		p.word("t;", amp)
		return '>'
	case 'q':
		p.word("uot;", amp)
		return '"'
	case 'a':
		return p.ampersand(amp)
	}
	p.fail(amp)
	return 0
}

// ampersand parts the two references that begin with the same letter.
func (p *Parser) ampersand(amp int) rune {
	if p.peek() == 'm' {
		p.word("mp;", amp)
		return '&'
	}
	p.word("pos;", amp)
	return '\''
}

// number goes over the digits of a reference, and its `;`.
func (p *Parser) number(amp int) rune {
	base := rune(10)
	if p.peek() == 'x' {
		p.take()
		base = 16
	}
	n := p.digit(base, amp)
	for p.peek() != ';' {
		n = n*base + p.digit(base, amp)
		// More digits make no Char of it, and might make it wrap round.
		if n > 0x10FFFF {
			p.fail(amp)
		}
	}
	p.take()
	if !char.Char(n) {
		p.fail(amp)
	}
	return n
}

func (p *Parser) digit(base rune, amp int) rune {
	r := p.take()
	switch {
	case r >= '0' && r <= '9':
		return r - '0'
	case base == 16 && r >= 'a' && r <= 'f':
		return r - 'a' + 10
	case base == 16 && r >= 'A' && r <= 'F':
		return r - 'A' + 10
	}
	p.fail(amp)
	return 0
}

package pat

import (
	"rubric/api"
	"rubric/char"
	"rubric/set"
)

const (
	mostOpen   = 40 // brackets within one another
	mostDigits = 4  // of a number of times
)

// fault is what a reader leaves by: it is thrown, and whole catches it.
type fault struct {
	at  int
	err api.Errno
}

// reader goes over a pattern once, from front to end.
type reader struct {
	b    []byte
	at   int
	open int // brackets
}

// whole goes over all of the pattern; its fault is OK, if there is none.
func (p *reader) whole() (n Node, f fault) {
	defer func() {
		if r := recover(); r != nil {
			n, f = Node{}, r.(fault)
		}
	}()
	n = p.pattern()
	if !p.ended() {
		p.fail(p.at)
	}
	return n, fault{}
}

func (p *reader) fail(at int) {
	panic(fault{at, api.ErrForm})
}

func (p *reader) ended() bool {
	return p.at == len(p.b)
}

// letter answers the letter at a place, and its length. Whoever asks needs one,
// so that the pattern's end comes too early for it.
func (p *reader) letter(at int) (rune, int) {
	r, n := char.Decode(p.b[at:])
	if n == 0 {
		p.fail(at)
	}
	return r, n
}

func (p *reader) peek() rune {
	r, _ := p.letter(p.at)
	return r
}

// behind answers the letter behind the one here, which is of one byte.
func (p *reader) behind() rune {
	r, _ := p.letter(p.at + 1)
	return r
}

// skip goes over c, if it stands here, and tells whether it did.
func (p *reader) skip(c byte) bool {
	if p.ended() || p.b[p.at] != c {
		return false
	}
	p.at++
	return true
}

// sign goes over c, which must stand here.
func (p *reader) sign(c byte) {
	if p.peek() != rune(c) {
		p.fail(p.at)
	}
	p.at++
}

// enter goes over the bracket that stands here.
func (p *reader) enter() {
	if p.open == mostOpen {
		panic(fault{p.at, api.ErrMany})
	}
	p.open++
	p.at++
}

// leave goes over the end of the bracket that was entered last.
func (p *reader) leave(end byte) {
	p.sign(end)
	p.open--
}

// pattern goes over alternatives, as far as there are some.
func (p *reader) pattern() Node {
	l := []Node{p.row()}
	for p.skip('|') {
		l = append(l, p.row())
	}
	if len(l) == 1 {
		return l[0]
	}
	return Node{Kind: Alt, Kids: l}
}

// row goes over the pieces of an alternative.
func (p *reader) row() Node {
	var l []Node
	for p.goesOn() {
		l = append(l, p.piece())
	}
	switch len(l) {
	case 0:
		return Node{Kind: Empty}
	case 1:
		return l[0]
	}
	return Node{Kind: Seq, Kids: l}
}

// goesOn tells whether a piece must stand here.
func (p *reader) goesOn() bool {
	if p.ended() {
		return false
	}
	r := p.peek()
	return r != '|' && r != ')'
}

func (p *reader) piece() Node {
	n := p.atom()
	least, most, repeated := p.times()
	if !repeated {
		return n
	}
	return Node{Kind: Rep, Min: least, Max: most, Kids: []Node{n}}
}

// times goes over what says how often an atom stands, if that is said.
func (p *reader) times() (least, most int, said bool) {
	switch {
	case p.skip('?'):
		return 0, 1, true
	case p.skip('*'):
		return 0, endless, true
	case p.skip('+'):
		return 1, endless, true
	case p.skip('{'):
		least, most = p.bounds(p.at - 1)
		return least, most, true
	}
	return 0, 0, false
}

// bounds goes over numbers of times, from behind the bracket at open on.
func (p *reader) bounds(open int) (least, most int) {
	least = p.number(open)
	most = least
	if p.skip(',') {
		most = endless
		if p.peek() != '}' {
			most = p.number(open)
		}
	}
	if p.peek() != '}' || most != endless && most < least {
		p.fail(open)
	}
	p.at++
	return least, most
}

// number goes over digits; the bracket at open is at fault, if there are none or
// if they tell too much.
func (p *reader) number(open int) int {
	n, count := 0, 0
	for r := p.peek(); r >= '0' && r <= '9'; r = p.peek() {
		n = 10*n + int(r-'0')
		count++
		if count > mostDigits || n > api.MaxOccur {
			p.fail(open)
		}
		p.at++
	}
	if count == 0 {
		p.fail(open)
	}
	return n
}

func (p *reader) atom() Node {
	r, n := p.letter(p.at)
	switch r {
	case '(':
		p.enter()
		group := p.pattern()
		p.leave(')')
		return group
	case '[':
		return Node{Kind: Sym, Set: p.class()}
	case '\\':
		return Node{Kind: Sym, Set: p.escape()}
	case '.':
		p.at++
		return Node{Kind: Sym, Set: set.Union(just('\n'), just('\r')).Not()}
	case '?', '*', '+', ')', '|', ']', '{', '}':
		p.fail(p.at)
	}
	p.at += n
	return Node{Kind: Sym, Set: just(r)}
}

// just answers the set of one letter.
func just(r rune) set.Set {
	return set.Of(set.Range{Lo: r, Hi: r})
}

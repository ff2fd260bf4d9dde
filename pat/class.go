package pat

import (
	"rubric/api"
	"rubric/set"
)

// escape goes over an escape, from its `\` on, and answers its letters.
func (p *reader) escape() set.Set {
	begin := p.at
	r, n := p.letter(begin + 1)
	p.at += 1 + n
	switch r {
	case '.', '\\', '?', '*', '+', '(', ')', '|', '[', ']', '{', '}', '-', '^':
		return just(r)
	case 'n':
		return just('\n')
	case 'r':
		return just('\r')
	case 't':
		return just('\t')
	case 'p':
		return p.category(begin)
	case 'P':
		return p.category(begin).Not()
	}
	s, known := set.Escape(byte(r))
	// Of a letter of more bytes the last one may be that of an escape.
	if !known || n > 1 {
		p.fail(begin)
	}
	return s
}

// category goes over a name in brackets. The escape that it belongs to begins at
// begin.
func (p *reader) category(begin int) set.Set {
	p.sign('{')
	from := p.at
	for p.peek() != '}' {
		_, n := p.letter(p.at)
		p.at += n
	}
	s, known := set.Category(string(p.b[from:p.at]))
	if !known {
		panic(fault{begin, api.ErrOdd})
	}
	p.at++
	return s
}

// class goes over a class, from its `[` on, and answers its letters.
func (p *reader) class() set.Set {
	p.enter()
	others := p.skip('^')
	var l []set.Range
	for first := true; first || !p.classEnds(); first = false {
		l = append(l, p.member(first)...)
	}
	s := set.Of(l...)
	if others {
		s = s.Not()
	}
	if p.skip('-') {
		s = set.Minus(s, p.class())
	}
	p.leave(']')
	return s
}

// classEnds tells whether no more members of a class follow, only its end or the
// class that is taken away.
func (p *reader) classEnds() bool {
	switch p.peek() {
	case ']':
		return true
	case '-':
		return p.behind() == '['
	}
	return false
}

// lastDash tells whether the `-` that stands here is the last member of a class.
func (p *reader) lastDash() bool {
	switch p.behind() {
	case ']':
		return true
	case '-':
		r, _ := p.letter(p.at + 2)
		return r == '['
	}
	return false
}

// member goes over a letter, an escape or a range.
func (p *reader) member(first bool) set.Set {
	begin := p.at
	dash := p.peek() == '-'
	from := p.single(first)
	if dash || from.Size() > 1 || !p.dashBetween() {
		return from
	}
	p.at++
	end := p.at
	to := p.single(false)
	if to.Size() > 1 {
		p.fail(end)
	}
	r := set.Range{Lo: from[0].Lo, Hi: to[0].Lo}
	if r.Lo > r.Hi {
		p.fail(begin)
	}
	return set.Of(r)
}

// dashBetween tells whether a range's `-` stands here.
func (p *reader) dashBetween() bool {
	return p.peek() == '-' && !p.classEnds() && !p.lastDash()
}

// single goes over a letter or an escape of a class.
func (p *reader) single(first bool) set.Set {
	r, n := p.letter(p.at)
	switch r {
	case '\\':
		return p.escape()
	case '[', ']':
		p.fail(p.at)
	case '-':
		if !first && !p.lastDash() {
			p.fail(p.at)
		}
	}
	p.at += n
	return just(r)
}

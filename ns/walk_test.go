package ns_test

import (
	"fmt"
	"math/rand"
	"slices"
	"strings"
	"testing"

	"rubric/api"
	"rubric/char"
	"rubric/ns"
	"rubric/xml"
)

// plain is the chapter's words once more, without maps and without taking
// anything back: of each open element what it binds, searched from within.
type plain [][]ns.Bind

func (p plain) space(prefix string) (string, bool) {
	if prefix == "xml" {
		return api.XML, true
	}
	for i := len(p) - 1; i >= 0; i-- {
		for _, b := range p[i] {
			if b.Prefix == prefix {
				return b.Space, true
			}
		}
	}
	return "", prefix == ""
}

func (p plain) resolve(qname string) (api.Name, api.Errno) {
	prefix, local, ok := char.QName(qname)
	if !ok {
		return api.Name{}, api.ErrForm
	}
	space, ok := p.space(prefix)
	if !ok {
		return api.Name{}, api.ErrNone
	}
	return name(space, local), api.OK
}

func (p plain) binds() []ns.Bind {
	var prefixes []string
	for _, l := range p {
		for _, b := range l {
			prefixes = append(prefixes, b.Prefix)
		}
	}
	slices.Sort(prefixes)
	var out []ns.Bind
	for _, prefix := range slices.Compact(prefixes) {
		if space, _ := p.space(prefix); space != "" && prefix != "xml" {
			out = append(out, ns.Bind{Prefix: prefix, Space: space})
		}
	}
	return out
}

func wrongBind(prefix, value string, colon bool) bool {
	return colon && !char.NCName(prefix) ||
		prefix == "xmlns" ||
		prefix == "xml" && value != api.XML ||
		prefix != "xml" && value == api.XML ||
		value == api.XMLNS ||
		colon && value == ""
}

// open answers what Open must, and what p is then.
func (p plain) open(e xml.Event) (plain, ns.Tag, int, api.Errno) {
	var mine []ns.Bind
	var rest []xml.Attr
	for _, a := range e.Attrs {
		before, after, colon := strings.Cut(a.Name, ":")
		if before != "xmlns" {
			rest = append(rest, a)
			continue
		}
		if wrongBind(after, a.Value, colon) {
			return p, ns.Tag{}, a.At, api.ErrForm
		}
		mine = append(mine, ns.Bind{Prefix: after, Space: a.Value})
	}
	then := append(slices.Clone(p), mine)
	n, err := then.resolve(e.Name)
	if prefix, _, _ := char.QName(e.Name); prefix == "xmlns" {
		err = api.ErrForm
	}
	if err != api.OK {
		return p, ns.Tag{}, e.At, err
	}
	tag := ns.Tag{Name: n, At: e.At}
	for _, a := range rest {
		n, err := then.resolve(a.Name)
		if err != api.OK {
			return p, ns.Tag{}, a.At, err
		}
		if !strings.Contains(a.Name, ":") {
			n.Space = ""
		}
		if slices.ContainsFunc(tag.Attrs, func(b ns.Attr) bool { return b.Name == n }) {
			return p, ns.Tag{}, a.At, api.ErrDup
		}
		tag.Attrs = append(tag.Attrs, ns.Attr{Name: n, Value: a.Value, At: a.At})
	}
	return then, tag, 0, api.OK
}

// both is a scope and what it must say.
type both struct {
	s *ns.Scope
	p plain
}

func (b *both) open(t *testing.T, e xml.Event) {
	t.Helper()
	then, want, wantAt, wantErr := b.p.open(e)
	tag, at, err := b.s.Open(e)
	if !sameTag(tag, want) || at != wantAt || err != wantErr {
		t.Fatalf("Open(%+v) in %q: %+v, %d, %v; want %+v, %d, %v", e, b.p, tag, at, err, want, wantAt, wantErr)
	}
	b.p = then
	b.check(t)
}

func (b *both) close(t *testing.T) {
	t.Helper()
	if b.s.Close() != (len(b.p) > 0) {
		t.Fatalf("Close in %q", b.p)
	}
	b.p = b.p[:max(len(b.p)-1, 0)]
	b.check(t)
}

func (b *both) check(t *testing.T) {
	t.Helper()
	if b.s.Depth() != len(b.p) {
		t.Fatalf("Depth: %d; want %d", b.s.Depth(), len(b.p))
	}
	if got, want := b.s.Binds(), b.p.binds(); !slices.Equal(got, want) {
		t.Fatalf("Binds in %q: %q; want %q", b.p, got, want)
	}
	for _, prefix := range []string{"", "p", "q", "r", "xml", "xmlns"} {
		space, ok := b.s.Space(prefix)
		if want, has := b.p.space(prefix); space != want || ok != has {
			t.Fatalf("Space(%q) in %q: %q, %v; want %q, %v", prefix, b.p, space, ok, want, has)
		}
	}
	for _, qname := range []string{"x", "p:x", "q:x", "xml:x", "xmlns:x", "p:", ":x"} {
		n, err := b.s.Resolve(qname)
		if want, wantErr := b.p.resolve(qname); n != want || err != wantErr {
			t.Fatalf("Resolve(%q) in %q: %q, %v; want %q, %v", qname, b.p, n, err, want, wantErr)
		}
	}
}

// attrs are some of each kind: that bind, that may not, that bind nothing.
func attrs() []xml.Attr {
	return []xml.Attr{
		{Name: "xmlns", Value: "u"}, {Name: "xmlns", Value: ""},
		{Name: "xmlns:p", Value: "u"}, {Name: "xmlns:p", Value: "v"},
		{Name: "xmlns:q", Value: "u"}, {Name: "xmlns:q", Value: "w"},
		{Name: "xmlns:xml", Value: api.XML},
		{Name: "x", Value: "1"}, {Name: "p:x", Value: "2"},
		{Name: "q:x", Value: "3"}, {Name: "xml:x", Value: "4"},
		{Name: "r:x", Value: "5"}, {Name: "p:", Value: "6"},
		{Name: "xmlns:", Value: "u"}, {Name: "xmlns:p", Value: ""},
		{Name: "xmlns:xml", Value: "u"}, {Name: "xmlns:xmlns", Value: "u"},
		{Name: "xmlns", Value: api.XML}, {Name: "xmlns:q", Value: api.XMLNS},
	}
}

func elements() []string {
	return []string{"a", "p:a", "q:a", "xml:a", "xmlns:a", ":a"}
}

// rows calls f with each row of at most n of attrs, their places in their order.
func rows(n int, f func([]xml.Attr)) {
	var row []xml.Attr
	var more func()
	more = func() {
		f(row)
		if len(row) == n {
			return
		}
		for _, a := range attrs() {
			a.At = 10 + len(row)
			row = append(row, a)
			more()
			row = row[:len(row)-1]
		}
	}
	more()
}

func TestP302EveryShortTag(t *testing.T) {
	for _, outer := range [][]string{nil, {"xmlns", "d", "xmlns:p", "u", "xmlns:q", "u"}, {"xmlns:q", "v"}} {
		rows(3, func(row []xml.Attr) {
			for _, n := range elements() {
				b := both{s: ns.New()}
				b.open(t, start("a", outer...))
				b.open(t, xml.Event{Kind: xml.Start, Name: n, At: 5, Attrs: row})
				b.close(t)
			}
		})
	}
}

func TestP301LongWalk(t *testing.T) {
	r := rand.New(rand.NewSource(3))
	all := attrs()
	b := both{s: ns.New()}
	for range 50000 {
		if r.Intn(5) < 2 || len(b.p) > 12 {
			b.close(t)
			continue
		}
		e := start(elements()[r.Intn(4)])
		few := 7 // those that bind rightly, most of the time
		if r.Intn(4) == 0 {
			few = len(all)
		}
		for i := range r.Intn(4) {
			a := all[r.Intn(few)]
			a.At = 10 + i
			e.Attrs = append(e.Attrs, a)
		}
		b.open(t, e)
	}
}

func TestP3SameCallsSameAnswers(t *testing.T) {
	var first string
	for i := range 50 {
		s := opened(t, []string{"xmlns:p", "1", "xmlns:q", "2", "xmlns:r", "3", "xmlns", "4"}, []string{"xmlns:r", "5", "xmlns:s", "6", "xmlns", ""})
		said := tell(s)
		s.Close()
		said += tell(s)
		if i == 0 {
			first = said
		}
		if said != first {
			t.Fatalf("%s; first: %s", said, first)
		}
	}
}

// names goes over a document by its events, and writes its tags.
func names(t *testing.T, doc string) string {
	t.Helper()
	s := ns.New()
	p := xml.New([]byte(doc), api.Limits{})
	out := ""
	for e, ok := p.Next(); ok; e, ok = p.Next() {
		switch e.Kind {
		case xml.Start:
			tag, at, err := s.Open(e)
			if err != api.OK {
				return fmt.Sprintf("%s!%d %v", out, at, err)
			}
			out += fmt.Sprintf("%d{%s}%s", tag.At, tag.Name.Space, tag.Name.Local)
			for _, a := range tag.Attrs {
				out += fmt.Sprintf(" %d{%s}%s=%s", a.At, a.Name.Space, a.Name.Local, a.Value)
			}
			out += ";"
		case xml.End:
			s.Close()
		}
		if s.Depth() != p.Depth() {
			t.Errorf("%s: depth %d; the parser's %d", doc, s.Depth(), p.Depth())
		}
	}
	return out
}

func TestP302Documents(t *testing.T) {
	for _, c := range []struct{ doc, want string }{
		{"<a/>", "0{}a;"},
		{"<a xmlns='u'><b x='1'/><c xmlns=''><d/></c><e/></a>", "0{u}a;13{u}b 16{}x=1;23{}c;35{}d;43{u}e;"},
		{"<p:a xmlns:p='u' p:x='1' x='2'><p:b xmlns:p='v' p:x='3'/><p:c/></p:a>", "0{u}a 17{u}x=1 25{}x=2;31{v}b 48{v}x=3;57{u}c;"},
		{"<a xml:lang='en'/>", "0{}a 3{" + api.XML + "}lang=en;"},
		{"<a xmlns='&#x75;&amp;'/>", "0{u&}a;"},
		{"<a><p:b xmlns:p='u'/><p:c/></a>", "0{}a;3{u}b;!21 none"},
		{"<a><b p:x='1'/></a>", "0{}a;!6 none"},
		{"<a xmlns:p='u' xmlns:q='u'><b p:x='1' q:x='2'/></a>", "0{}a;!38 dup"},
		{"<a:b:c/>", "!0 form"},
		{"<a xmlns:xml='u'/>", "!3 form"},
	} {
		if got := names(t, c.doc); got != c.want {
			t.Errorf("%s: %s; want %s", c.doc, got, c.want)
		}
	}
}

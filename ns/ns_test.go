package ns_test

import (
	"fmt"
	"slices"
	"strconv"
	"strings"
	"testing"

	"rubric/api"
	"rubric/ns"
	"rubric/xml"
)

// start is a Start event of name at 5, with attributes (name, value by turns)
// at 10, 11, 12.
func start(name string, l ...string) xml.Event {
	e := xml.Event{Kind: xml.Start, Name: name, At: 5}
	for i := 0; i < len(l); i += 2 {
		e.Attrs = append(e.Attrs, xml.Attr{Name: l[i], Value: l[i+1], At: 10 + i/2})
	}
	return e
}

func name(space, local string) api.Name {
	return api.Name{Space: space, Local: local}
}

// opened is a scope with elements `a` open, each with its attributes.
func opened(t *testing.T, l ...[]string) *ns.Scope {
	t.Helper()
	s := ns.New()
	for _, attrs := range l {
		mustOpen(t, s, start("a", attrs...))
	}
	return s
}

func mustOpen(t *testing.T, s *ns.Scope, e xml.Event) ns.Tag {
	t.Helper()
	tag, at, err := s.Open(e)
	if at != 0 || err != api.OK {
		t.Fatalf("Open(%+v): %d, %v", e, at, err)
	}
	return tag
}

func sameTag(a, b ns.Tag) bool {
	return a.Name == b.Name && a.At == b.At && slices.Equal(a.Attrs, b.Attrs)
}

// tell writes all that a scope says, so that two of them can be held against
// each other.
func tell(s *ns.Scope) string {
	out := fmt.Sprintf("%d %q", s.Depth(), s.Binds())
	for _, p := range []string{"", "p", "q", "r", "xml", "xmlns", "p:q", ":", "\xff"} {
		space, ok := s.Space(p)
		bare, err := s.Resolve(p + ":x")
		out += fmt.Sprintf("; %q %q %v %q %v", p, space, ok, bare, err)
	}
	bare, err := s.Resolve("x")
	return out + fmt.Sprintf("; %q %v", bare, err)
}

func checkSpace(t *testing.T, s *ns.Scope, prefix, want string, has bool) {
	t.Helper()
	if got, ok := s.Space(prefix); got != want || ok != has {
		t.Errorf("depth %d: Space(%q): %q, %v; want %q, %v", s.Depth(), prefix, got, ok, want, has)
	}
}

func checkBinds(t *testing.T, s *ns.Scope, want ...ns.Bind) {
	t.Helper()
	if got := s.Binds(); !slices.Equal(got, want) {
		t.Errorf("depth %d: Binds: %q; want %q", s.Depth(), got, want)
	}
}

// row is an event that is refused, and how.
type row struct {
	e   xml.Event
	at  int
	err api.Errno
}

// checkRefused opens each row in a scope that binds p and a default, and wants
// that nothing of it stays.
func checkRefused(t *testing.T, rows []row) {
	t.Helper()
	for _, r := range rows {
		s := opened(t, []string{"xmlns", "d", "xmlns:p", "u"})
		before := tell(s)
		tag, at, err := s.Open(r.e)
		if at != r.at || err != r.err || !sameTag(tag, ns.Tag{}) {
			t.Errorf("Open(%+v): %+v, %d, %v; want %d, %v", r.e, tag, at, err, r.at, r.err)
		}
		if after := tell(s); after != before {
			t.Errorf("Open(%+v) left %s; want %s", r.e, after, before)
		}
	}
}

func TestP301SpaceOfNothing(t *testing.T) {
	s := ns.New()
	checkSpace(t, s, "", "", true)
	checkSpace(t, s, "xml", api.XML, true)
	for _, p := range []string{"p", "xmlns", "XML", "xs", "xsi", " ", ":", "xml:", "\xff"} {
		checkSpace(t, s, p, "", false)
	}
	checkBinds(t, s)
}

func TestP301SpaceOfTheInnermost(t *testing.T) {
	s := opened(t, []string{"xmlns:p", "1", "xmlns:q", "1"}, []string{"xmlns:p", "2"}, nil, []string{"xmlns:p", "3", "xmlns:r", "3"})
	for _, want := range []string{"3", "2", "2", "1"} {
		checkSpace(t, s, "p", want, true)
		checkSpace(t, s, "q", "1", true)
		if want == "3" {
			checkSpace(t, s, "r", "3", true)
		} else {
			checkSpace(t, s, "r", "", false)
		}
		s.Close()
	}
	checkSpace(t, s, "p", "", false)
	checkSpace(t, s, "q", "", false)
}

func TestP301EmptyPrefix(t *testing.T) {
	s := opened(t, []string{"xmlns", "u"}, []string{"xmlns", ""}, nil, []string{"xmlns", "v"}, []string{"xmlns", ""})
	for _, want := range []string{"", "v", "", "", "u", ""} {
		checkSpace(t, s, "", want, true)
		if n, err := s.Resolve("x"); n != name(want, "x") || err != api.OK {
			t.Errorf("depth %d: Resolve: %q, %v; want space %q", s.Depth(), n, err, want)
		}
		s.Close()
	}
}

func TestP301XMLStays(t *testing.T) {
	s := opened(t, nil, []string{"xmlns:xml", api.XML})
	for range 3 {
		checkSpace(t, s, "xml", api.XML, true)
		checkBinds(t, s)
		s.Close()
	}
}

func TestP301Binds(t *testing.T) {
	s := opened(t,
		[]string{"xmlns:q", "u", "xmlns:b", "u", "xmlns:Z", "v", "xmlns:xml", api.XML, "x", "u"},
		[]string{"xmlns", "d", "xmlns:b", "w"},
		[]string{"xmlns", ""},
		[]string{"xmlns:\u00e9", "4", "xmlns:_", "4", "xmlns:q.", "4", "xmlns:xmlx", "4"})
	outer := []ns.Bind{{"Z", "v"}, {"b", "u"}, {"q", "u"}}
	inner := []ns.Bind{{"Z", "v"}, {"b", "w"}, {"q", "u"}}
	checkBinds(t, s, ns.Bind{"Z", "v"}, ns.Bind{"_", "4"}, ns.Bind{"b", "w"}, ns.Bind{"q", "u"}, ns.Bind{"q.", "4"}, ns.Bind{"xmlx", "4"}, ns.Bind{"\u00e9", "4"})
	s.Close()
	checkBinds(t, s, inner...)
	s.Close()
	checkBinds(t, s, slices.Concat([]ns.Bind{{"", "d"}}, inner)...)
	s.Close()
	checkBinds(t, s, outer...)
	s.Close()
	checkBinds(t, s)
}

func TestP301Resolve(t *testing.T) {
	s := opened(t, []string{"xmlns", "d", "xmlns:p", "u"})
	for _, c := range []struct {
		qname string
		want  api.Name
		err   api.Errno
	}{
		{"x", name("d", "x"), api.OK},
		{"p:x", name("u", "x"), api.OK},
		{"p:p", name("u", "p"), api.OK},
		{"p:\u00e9-.1", name("u", "\u00e9-.1"), api.OK},
		{"xml:lang", name(api.XML, "lang"), api.OK},
		{"xmlns", name("d", "xmlns"), api.OK},
		{"q:x", api.Name{}, api.ErrNone},
		{"P:x", api.Name{}, api.ErrNone},
		{"xmlns:p", api.Name{}, api.ErrNone},
		{"", api.Name{}, api.ErrForm},
		{":", api.Name{}, api.ErrForm},
		{":x", api.Name{}, api.ErrForm},
		{"p:", api.Name{}, api.ErrForm},
		{"q:", api.Name{}, api.ErrForm},
		{"p:x:y", api.Name{}, api.ErrForm},
		{"q:1", api.Name{}, api.ErrForm},
		{"1:x", api.Name{}, api.ErrForm},
		{" p:x", api.Name{}, api.ErrForm},
		{"p: x", api.Name{}, api.ErrForm},
		{"p:x ", api.Name{}, api.ErrForm},
		{"p:\xff", api.Name{}, api.ErrForm},
		{"xmlns:", api.Name{}, api.ErrForm},
	} {
		if got, err := s.Resolve(c.qname); got != c.want || err != c.err {
			t.Errorf("Resolve(%q): %q, %v; want %q, %v", c.qname, got, err, c.want, c.err)
		}
	}
}

func TestP302Tag(t *testing.T) {
	s := ns.New()
	got := mustOpen(t, s, start("p:a", "x", "1", "p:x", "2", "xmlns:q", "v", "q:x", "3", "xmlns", "d", "xmlns:p", "u", "xml:x", "4", "xmlnsx", "5", "p:xmlns", "6", "y", ""))
	want := ns.Tag{Name: name("u", "a"), At: 5, Attrs: []ns.Attr{
		{name("", "x"), "1", 10},
		{name("u", "x"), "2", 11},
		{name("v", "x"), "3", 13},
		{name(api.XML, "x"), "4", 16},
		{name("", "xmlnsx"), "5", 17},
		{name("u", "xmlns"), "6", 18},
		{name("", "y"), "", 19},
	}}
	if !sameTag(got, want) || s.Depth() != 1 {
		t.Errorf("%+v; want %+v", got, want)
	}
}

func TestP302Names(t *testing.T) {
	for _, c := range []struct {
		e    xml.Event
		want api.Name
	}{
		{start("a"), name("d", "a")},
		{start("p:a"), name("u", "a")},
		{start("xml:a"), name(api.XML, "a")},
		{start("xmlns"), name("d", "xmlns")},
		{start("xml"), name("d", "xml")},
		{start("p:xmlns"), name("u", "xmlns")},
		{start("a", "xmlns", ""), name("", "a")},
		{start("a", "xmlns", "e"), name("e", "a")},
		{start("p:a", "xmlns:p", "w"), name("w", "a")},
		{start("q:a", "x", "1", "xmlns:q", "w"), name("w", "a")},
		{start("q:a", "xmlns:q", api.XSI), name(api.XSI, "a")},
		{start("q:a", "xmlns:q", " "), name(" ", "a")},
		{start("xml:a", "xmlns:xml", api.XML), name(api.XML, "a")},
		{start("XML:a", "xmlns:XML", "w", "xmlns:XMLNS", "w", "xmlns:xmlnsx", api.XML+"/", "xmlns:xmlx", api.XML[1:]), name("w", "a")},
	} {
		s := opened(t, []string{"xmlns", "d", "xmlns:p", "u"})
		if tag := mustOpen(t, s, c.e); tag.Name != c.want || tag.At != 5 || len(tag.Attrs) > 1 || s.Depth() != 2 {
			t.Errorf("Open(%+v): %+v; want %q", c.e, tag, c.want)
		}
	}
}

func TestP302WrongBindings(t *testing.T) {
	checkRefused(t, []row{
		{start("a", "xmlns:", "w"), 10, api.ErrForm},
		{start("a", "xmlns:", ""), 10, api.ErrForm},
		{start("a", "xmlns::", "w"), 10, api.ErrForm},
		{start("a", "xmlns:1", "w"), 10, api.ErrForm},
		{start("a", "xmlns:q:r", "w"), 10, api.ErrForm},
		{start("a", "xmlns:q:", "w"), 10, api.ErrForm},
		{start("a", "xmlns: q", "w"), 10, api.ErrForm},
		{start("a", "xmlns:\xff", "w"), 10, api.ErrForm},
		{start("a", "xmlns:xmlns", "w"), 10, api.ErrForm},
		{start("a", "xmlns:xmlns", api.XMLNS), 10, api.ErrForm},
		{start("a", "xmlns:xml", "w"), 10, api.ErrForm},
		{start("a", "xmlns:xml", ""), 10, api.ErrForm},
		{start("a", "xmlns:xml", api.XMLNS), 10, api.ErrForm},
		{start("a", "xmlns:xml", api.XML+" "), 10, api.ErrForm},
		{start("a", "xmlns:q", api.XML), 10, api.ErrForm},
		{start("a", "xmlns", api.XML), 10, api.ErrForm},
		{start("a", "xmlns:q", api.XMLNS), 10, api.ErrForm},
		{start("a", "xmlns", api.XMLNS), 10, api.ErrForm},
		{start("a", "xmlns:q", ""), 10, api.ErrForm},
		{start("a", "xmlns:p", ""), 10, api.ErrForm},
		{start("a", "xmlns:q", "w", "xmlns", "e", "xmlns:p", ""), 12, api.ErrForm},
		{start("a", "xmlns:q", "w", "xmlns:r", "", "xmlns:xml", "w"), 11, api.ErrForm},
	})
}

func TestP302WrongNames(t *testing.T) {
	checkRefused(t, []row{
		{start(""), 5, api.ErrForm},
		{start(":"), 5, api.ErrForm},
		{start(":a"), 5, api.ErrForm},
		{start("p:"), 5, api.ErrForm},
		{start("q:"), 5, api.ErrForm},
		{start("1"), 5, api.ErrForm},
		{start("p:a:b"), 5, api.ErrForm},
		{start("p:\xff"), 5, api.ErrForm},
		{start("xmlns:"), 5, api.ErrForm},
		{start("xmlns:a"), 5, api.ErrForm},
		{start("xmlns:a:b"), 5, api.ErrForm},
		{start("q:a"), 5, api.ErrNone},
		{start("q:a", "xmlns:r", "w", "xmlns", "e", "xmlns:p", "w"), 5, api.ErrNone},
	})
}

func TestP302WrongAttributes(t *testing.T) {
	checkRefused(t, []row{
		{start("a", "", "1"), 10, api.ErrForm},
		{start("a", ":", "1"), 10, api.ErrForm},
		{start("a", ":x", "1"), 10, api.ErrForm},
		{start("a", "p:", "1"), 10, api.ErrForm},
		{start("a", "p:x:y", "1"), 10, api.ErrForm},
		{start("a", "x", "1", "1x", "1"), 11, api.ErrForm},
		{start("a", "x", "1", "\xff", "1"), 11, api.ErrForm},
		{start("a", "q:x", "1"), 10, api.ErrNone},
		{start("a", "x", "1", "xmlns:r", "w", "q:x", "1"), 12, api.ErrNone},
		{start("a", "x", "1", "x", "1"), 11, api.ErrDup},
		{start("a", "x", "1", "y", "1", "x", "2"), 12, api.ErrDup},
		{start("a", "p:x", "1", "p:x", "1"), 11, api.ErrDup},
		{start("a", "p:x", "1", "q:x", "1", "xmlns:q", "u"), 11, api.ErrDup},
		{start("a", "xmlns:r", "w", "q:x", "1", "x", "1", "r:x", "1", "xmlns:q", "w"), 13, api.ErrDup},
		{start("a", "xml:x", "1", "xml:x", "1"), 11, api.ErrDup},
	})
}

func TestP302SameLocalsOfOtherSpaces(t *testing.T) {
	s := opened(t, []string{"xmlns", "u", "xmlns:p", "u"})
	// The default is of elements alone: `x` and `p:x` are two.
	tag := mustOpen(t, s, start("a", "x", "1", "p:x", "2", "q:x", "3", "xml:x", "4", "xmlns:q", "v"))
	if len(tag.Attrs) != 4 || tag.Attrs[0].Name != name("", "x") || tag.Attrs[1].Name != name("u", "x") {
		t.Errorf("%+v", tag)
	}
	// An outer prefix, bound to another space here, is no second one.
	mustOpen(t, s, start("a", "p:x", "1", "q:x", "2", "xmlns:p", "v", "xmlns:q", "u"))
}

func TestP302FirstError(t *testing.T) {
	checkRefused(t, []row{
		{start("", "x", "1", "x", "1", "xmlns:q", ""), 12, api.ErrForm},
		{start("q:a", "q:x", "1", "xmlns:xmlns", "w"), 11, api.ErrForm},
		{start("a", "p:", "1", "xmlns:r", ""), 11, api.ErrForm},
		{start("q:a", "p:", "1", "x", "1", "x", "1"), 5, api.ErrNone},
		{start("q:", "q:x", "1"), 5, api.ErrForm},
		{start("a", "q:x", "1", "p:", "1"), 10, api.ErrNone},
		{start("a", "p:", "1", "q:x", "1"), 10, api.ErrForm},
		{start("a", "x", "1", "x", "1", "q:x", "1", ":", "1"), 11, api.ErrDup},
		{start("a", "x", "1", "q:x", "1", "x", "1"), 11, api.ErrNone},
		{start("a", "q:x", "1", "q:x", "1"), 10, api.ErrNone},
		{start("a", ":", "1", ":", "1"), 10, api.ErrForm},
	})
}

func TestP302OpenAndClose(t *testing.T) {
	s := ns.New()
	if s.Depth() != 0 || s.Close() || s.Depth() != 0 {
		t.Error("Close of nothing")
	}
	for i := range 5 {
		mustOpen(t, s, start("a", "xmlns:p"+strconv.Itoa(i), "u"))
		if s.Depth() != i+1 || len(s.Binds()) != i+1 {
			t.Errorf("depth %d, want %d; %q", s.Depth(), i+1, s.Binds())
		}
	}
	if _, _, err := s.Open(start("q:a")); err != api.ErrNone || s.Depth() != 5 {
		t.Errorf("%v, depth %d", err, s.Depth())
	}
	for i := 4; i >= 0; i-- {
		if !s.Close() || s.Depth() != i || len(s.Binds()) != i {
			t.Errorf("depth %d, want %d; %q", s.Depth(), i, s.Binds())
		}
	}
	if s.Close() || s.Depth() != 0 {
		t.Error("Close of nothing")
	}
}

// A document has no attribute twice, but an event may: of two things that are as
// good the first one holds (P9), and Close takes it back.
func TestP302BoundTwice(t *testing.T) {
	s := opened(t, []string{"xmlns", "d", "xmlns:p", "u"})
	before := tell(s)
	tag := mustOpen(t, s, start("p:a", "xmlns:p", "1", "xmlns:p", "2", "xmlns", "3", "xmlns", "4", "xmlns:q", "5", "xmlns:q", "6"))
	if tag.Name != name("1", "a") || len(tag.Attrs) != 0 {
		t.Errorf("%+v", tag)
	}
	checkBinds(t, s, ns.Bind{"", "3"}, ns.Bind{"p", "1"}, ns.Bind{"q", "5"})
	s.Close()
	if after := tell(s); after != before {
		t.Errorf("%s; want %s", after, before)
	}
}

func TestP303Xsi(t *testing.T) {
	for _, local := range []string{"type", "nil", "schemaLocation", "noNamespaceSchemaLocation"} {
		if !ns.Xsi(name(api.XSI, local)) {
			t.Errorf("%q", local)
		}
		for _, space := range []string{"", api.XS, api.XML, api.XSI + "/", strings.ToUpper(api.XSI)} {
			if ns.Xsi(name(space, local)) {
				t.Errorf("%q of %q", local, space)
			}
		}
	}
	for _, local := range []string{"", "Type", "nill", "nil ", "schemalocation", "schemaLocations", "NoNamespaceSchemaLocation", "xsi:type"} {
		if ns.Xsi(name(api.XSI, local)) {
			t.Errorf("%q", local)
		}
	}
}

// P1: nothing that is handed in makes a call panic, and a deep scope is no slow
// one.
func TestP1WhateverIsHandedIn(t *testing.T) {
	s := new(ns.Scope)
	for _, e := range []xml.Event{{}, {Kind: xml.Text, Text: "t"}, {Kind: -1, At: -1, Name: "\x00"}, {Attrs: []xml.Attr{{}}}} {
		if tag, at, err := s.Open(e); err != api.ErrForm || at != e.At || !sameTag(tag, ns.Tag{}) {
			t.Errorf("%+v: %+v, %d, %v", e, tag, at, err)
		}
	}
	const deep = 100000
	for i := range deep {
		mustOpen(t, s, start("q:a", "xmlns:q", strconv.Itoa(i)))
	}
	for i := deep - 1; i >= 0; i-- {
		checkSpace(t, s, "q", strconv.Itoa(i), true)
		s.Close()
	}
	checkSpace(t, s, "q", "", false)
}

func TestP2NothingIsShared(t *testing.T) {
	s := ns.New()
	room := start("p:a", "xmlns:p", "u", "x", "1", "p:y", "2", "z", "3").Attrs
	e := xml.Event{Kind: xml.Start, Name: "p:a", At: 5, Attrs: room[:3]}
	kept := slices.Clone(room)
	tag := mustOpen(t, s, e)
	if !slices.Equal(room, kept) {
		t.Errorf("the event was changed: %+v", room)
	}
	before := tell(s)
	clear(room)
	want := []ns.Attr{{name("", "x"), "1", 11}, {name("u", "y"), "2", 12}}
	if tell(s) != before || !slices.Equal(tag.Attrs, want) {
		t.Errorf("the event was kept: %s, %+v", tell(s), tag)
	}
	clear(tag.Attrs[:cap(tag.Attrs)])
	l := s.Binds()
	clear(l[:cap(l)])
	if tell(s) != before {
		t.Errorf("an answer is shared: %s", tell(s))
	}
}

func TestP7ScopesAreApart(t *testing.T) {
	a, b := ns.New(), ns.New()
	before := tell(b)
	mustOpen(t, a, start("a", "xmlns:p", "u"))
	if tell(b) != before {
		t.Errorf("%s; want %s", tell(b), before)
	}
}

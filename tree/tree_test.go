package tree_test

import (
	"fmt"
	"slices"
	"strings"
	"testing"

	"rubric/api"
	"rubric/ns"
	"rubric/tree"
)

func name(space, local string) api.Name {
	return api.Name{Space: space, Local: local}
}

func text(s string) *tree.Node {
	return &tree.Node{Text: s}
}

func elem(space, local string, kids ...*tree.Node) *tree.Node {
	return &tree.Node{Name: name(space, local), Kids: kids}
}

// with answers n with attributes: space, local, value, and so on.
func with(n *tree.Node, l ...string) *tree.Node {
	for i := 0; i < len(l); i += 3 {
		n.Attrs = append(n.Attrs, ns.Attr{Name: name(l[i], l[i+1]), Value: l[i+2]})
	}
	return n
}

// tell answers all that a node is, with each of its fields.
func tell(n *tree.Node) string {
	var s strings.Builder
	fmt.Fprintf(&s, "{%s}%s@%d", n.Name.Space, n.Name.Local, n.At)
	if n.End != 0 {
		fmt.Fprintf(&s, "-%d", n.End)
	}
	for _, a := range n.Attrs {
		fmt.Fprintf(&s, " {%s}%s=%q@%d", a.Name.Space, a.Name.Local, a.Value, a.At)
	}
	for _, b := range n.Binds {
		fmt.Fprintf(&s, " %s:=%s", b.Prefix, b.Space)
	}
	if n.Text != "" {
		fmt.Fprintf(&s, " %q", n.Text)
	}
	if len(n.Kids) > 0 {
		s.WriteString(" (")
		for i, k := range n.Kids {
			if i > 0 {
				s.WriteString(", ")
			}
			s.WriteString(tell(k))
		}
		s.WriteString(")")
	}
	return s.String()
}

func parsed(t *testing.T, doc string) *tree.Node {
	t.Helper()
	n, at, err := tree.Parse([]byte(doc), api.Limits{})
	if err != api.OK || at != 0 || n == nil {
		t.Fatalf("%q: %d, %v", doc, at, err)
	}
	return n
}

func TestP401Parse(t *testing.T) {
	for doc, want := range map[string]string{
		"<a/>":                                "{}a@0-2",
		"<a></a>":                             "{}a@0-3",
		"<a ></a >":                           "{}a@0-4",
		"<a>t</a>":                            `{}a@0-4 ({}@3 "t")`,
		"<a> <b/></a>":                        `{}a@0-8 ({}@3 " ", {}b@4-6)`,
		"<a>t<b>u</b>v</a>":                   `{}a@0-13 ({}@3 "t", {}b@4-8 ({}@7 "u"), {}@12 "v")`,
		"<a><b><c/></b><b/></a>":              "{}a@0-18 ({}b@3-10 ({}c@6-8), {}b@14-16)",
		"<?xml version='1.0'?>\n<!--n--><a/>": "{}a@30-32",
		"<a/><!--n--><?i x?>\n":               "{}a@0-2",

		// One text, whatever stands between its pieces; none of an empty one.
		"<a>x<!--n-->y<![CDATA[<]]>&amp;\r\n</a>":  `{}a@0-33 ({}@3 "xy<&\n")`,
		"<a><!--n--><?i?><![CDATA[]]></a>":         "{}a@0-28",
		"<a><!--n-->x</a>":                         `{}a@0-12 ({}@11 "x")`,
		"<a><b/><!--n--><b/><![CDATA[x]]><b/></a>": `{}a@0-36 ({}b@3-5, {}b@15-17, {}@19 "x", {}b@32-34)`,

		// Attributes in their order, without those that bind.
		"<a y='1' x=\"&lt;\t\"/>":                `{}a@0-18 {}y="1"@3 {}x="< "@9`,
		"<a xmlns='u' y='1'/>":                   `{u}a@0-18 {}y="1"@13 :=u`,
		"<p:a y='1' xmlns:p='u' p:y='2'/>":       `{u}a@0-30 {}y="1"@5 {u}y="2"@23 p:=u`,
		"<a xml:lang='e' xmlns:q='u' xml:q=''/>": "{}a@0-36 {" + api.XML + `}lang="e"@3 {` + api.XML + `}q=""@28 q:=u`,

		// What is bound, rising, in each element within.
		"<a xmlns:q='v' xmlns:p='u' xmlns='w'><b/></a>":      "{w}a@0-41 :=w p:=u q:=v ({w}b@37-39 :=w p:=u q:=v)",
		"<a xmlns:p='u'><b xmlns:p='v'><p:c/></b><p:c/></a>": "{}a@0-46 p:=u ({}b@15-36 p:=v ({v}c@30-34 p:=v), {u}c@40-44 p:=u)",
		"<a xmlns='u'><b xmlns=''><c/></b><c/></a>":          "{u}a@0-37 :=u ({}b@13-29 ({}c@25-27), {u}c@33-35 :=u)",
		"<a><b xmlns:p='u' xmlns:q='u'>t</b><b/></a>":        `{}a@0-39 ({}b@3-31 p:=u q:=u ({}@30 "t"), {}b@35-37)`,
		"<a xmlns:xml='" + api.XML + "'/>":                   "{}a@0-51",
		"<xml:a/>":                                           "{" + api.XML + "}a@0-6",
	} {
		if got := tell(parsed(t, doc)); got != want {
			t.Errorf("%q:\n%s, not\n%s", doc, got, want)
		}
	}
}

func TestP401Faults(t *testing.T) {
	for _, c := range []struct {
		doc string
		l   api.Limits
		at  int
		err api.Errno
	}{
		// xml's.
		{doc: "", at: 0, err: api.ErrForm},
		{doc: "x", at: 0, err: api.ErrForm},
		{doc: "<a>", at: 3, err: api.ErrForm},
		{doc: "<a></b>", at: 3, err: api.ErrForm},
		{doc: "<a x='' x=''/>", at: 8, err: api.ErrForm},
		{doc: "<a/><a/>", at: 4, err: api.ErrForm},
		{doc: "<a/>\xff", at: 4, err: api.ErrForm},
		{doc: "<a>&x;</a>", at: 3, err: api.ErrForm},

		// ns's: ErrForm, whichever it is.
		{doc: "<q:a/>", at: 0, err: api.ErrForm},
		{doc: "<a:/>", at: 0, err: api.ErrForm},
		{doc: "<a:b:c/>", at: 0, err: api.ErrForm},
		{doc: "<xmlns:a/>", at: 0, err: api.ErrForm},
		{doc: " <a q:x=''/>", at: 4, err: api.ErrForm},
		{doc: "<a xmlns:p='u' xmlns:q='u' p:x='' q:x=''/>", at: 34, err: api.ErrForm},
		{doc: "<a y='' xmlns:p=''/>", at: 8, err: api.ErrForm},
		{doc: "<a xmlns:xml='u'/>", at: 3, err: api.ErrForm},
		{doc: "<a xmlns='" + api.XMLNS + "'/>", at: 3, err: api.ErrForm},

		// A binding holds to the end of its element.
		{doc: "<a><b xmlns:p='u'/><p:c/></a>", at: 19, err: api.ErrForm},
		{doc: "<a><b xmlns:p='u'></b><b p:x=''/></a>", at: 25, err: api.ErrForm},

		// ns's fault is ahead of what stands behind its tag.
		{doc: "<q:a/>x", at: 0, err: api.ErrForm},
		{doc: "<q:a>", at: 0, err: api.ErrForm},
		{doc: "<q:a></b>", at: 0, err: api.ErrForm},
		{doc: "<a><b q:x=''>\x01", at: 6, err: api.ErrForm},
		{doc: "<a><b q:x=''><b q:y=''>", at: 6, err: api.ErrForm},
		{doc: "<q:a><b/></q:a>", l: api.Limits{Depth: 1}, at: 0, err: api.ErrForm},
		{doc: "<q:a>long</q:a>", l: api.Limits{Token: 3}, at: 0, err: api.ErrForm},

		// And behind what stands ahead of it, or in its tag, which is no event then.
		{doc: "<a>&<q:b/>", at: 3, err: api.ErrForm},
		{doc: "<a></b><q:b/>", at: 3, err: api.ErrForm},
		{doc: "<q:a x='' x=''>", at: 10, err: api.ErrForm},
		{doc: "<q:a", at: 4, err: api.ErrForm},
		{doc: "<q:a /x>", at: 6, err: api.ErrForm},
		{doc: "<q:a x='' y=''/>", l: api.Limits{Attrs: 1}, at: 10, err: api.ErrMany},
		{doc: "<a>long<q:b/></a>", l: api.Limits{Token: 3}, at: 3, err: api.ErrMany},

		// Limits.
		{doc: "<a><b/></a>", l: api.Limits{Depth: 1}, at: 3, err: api.ErrMany},
		{doc: "<a><b/><b/></a>", l: api.Limits{Nodes: 2}, at: 7, err: api.ErrMany},
		{doc: "<a x='' y=''/>", l: api.Limits{Attrs: 1}, at: 8, err: api.ErrMany},
		{doc: "<a x='' y='abc'/>", l: api.Limits{Token: 2}, at: 10, err: api.ErrMany},
		{doc: "<abc/>", l: api.Limits{Token: 2}, at: 1, err: api.ErrMany},
		{doc: "<a><b q:x=''/></a>", l: api.Limits{Depth: 1}, at: 3, err: api.ErrMany},
		{doc: "<q:a>" + strings.Repeat(" ", api.MaxText), at: 0, err: api.ErrMany},
		{doc: strings.Repeat("<a>", 65), at: 64 * 3, err: api.ErrMany},
		{doc: "<a>" + strings.Repeat("<b/>", 4096), at: 3 + 4*4095, err: api.ErrMany},
		{doc: "<a>" + strings.Repeat("x", 4097), at: 3, err: api.ErrMany},
	} {
		n, at, err := tree.Parse([]byte(c.doc), c.l)
		if n != nil || at != c.at || err != c.err {
			t.Errorf("%.60q: %v, %d, %v", c.doc, n, at, err)
		}
	}
}

func TestP401AtTheBounds(t *testing.T) {
	for doc, l := range map[string]api.Limits{
		"<a><b/></a>":            {Depth: 2, Nodes: 2},
		"<a x='' y='ab'>abc</a>": {Depth: 1, Nodes: 1, Attrs: 2, Token: 3},
		strings.Repeat("<a>", 64) + strings.Repeat("</a>", 64): {},
		"<a>" + strings.Repeat("<b/>", 4095) + "</a>":          {},
		"<a>" + strings.Repeat("x", 4096) + "</a>":             {},
		"<a/>" + strings.Repeat(" ", api.MaxText-4):            {Depth: -1, Nodes: -1, Attrs: -1, Token: -1},
	} {
		if n, at, err := tree.Parse([]byte(doc), l); n == nil || at != 0 || err != api.OK {
			t.Errorf("%.60q: %d, %v", doc, at, err)
		}
	}
}

func TestP401Elem(t *testing.T) {
	for n, want := range map[*tree.Node]bool{
		elem("", "a"):  true,
		elem("u", "a"): true,
		text("a"):      false,
		text(""):       false,
		elem("u", ""):  false,
	} {
		if n.Elem() != want {
			t.Errorf("%s: %v", tell(n), n.Elem())
		}
	}
}

func TestP402Str(t *testing.T) {
	for doc, want := range map[string]string{
		"<a/>":                                "",
		"<a>x</a>":                            "x",
		"<a>x<b>y</b>z<c/> </a>":              "xz ",
		"<a><b>y</b></a>":                     "",
		"<a>x<!--n-->y<![CDATA[z]]>&#65;</a>": "xyzA",
	} {
		if got := parsed(t, doc).Str(); got != want {
			t.Errorf("%q: %q", doc, got)
		}
	}
	if text("x").Str() != "x" || text("").Str() != "" {
		t.Error("of a text: it")
	}
}

func TestP402Elems(t *testing.T) {
	n := parsed(t, "<a>x<b><d/></b>y<c/>z</a>")
	if l := n.Elems(); len(l) != 2 || l[0] != n.Kids[1] || l[1] != n.Kids[3] {
		t.Errorf("%v", l)
	}
	if len(parsed(t, "<a>x</a>").Elems())+len(elem("", "a").Elems())+len(text("x").Elems()) != 0 {
		t.Error("there is none")
	}
	l := n.Elems()
	l[0] = nil
	_ = append(l, nil)
	if n.Kids[1] == nil || n.Elems()[0] != n.Kids[1] {
		t.Error("the list is not the caller's own")
	}
}

func TestP402Attr(t *testing.T) {
	n := parsed(t, "<a xmlns='u' xmlns:p='u' x='1' p:x='2' y=''/>")
	for of, want := range map[api.Name]string{
		name("", "x"):  "1",
		name("u", "x"): "2",
		name("", "y"):  "",
	} {
		if v, is := n.Attr(of); v != want || !is {
			t.Errorf("%v: %q, %v", of, v, is)
		}
	}
	for _, of := range []api.Name{name("", "z"), name("u", "y"), name("v", "x"), name("", "xmlns"), name(api.XMLNS, "p"), {}} {
		if v, is := n.Attr(of); v != "" || is {
			t.Errorf("%v: %q, %v", of, v, is)
		}
	}
	twice := with(elem("", "a"), "", "x", "1", "", "x", "2")
	if v, is := twice.Attr(name("", "x")); v != "1" || !is {
		t.Errorf("P9: %q, %v", v, is)
	}
}

func TestP402Resolve(t *testing.T) {
	n := parsed(t, "<a xmlns='u' xmlns:p='v'><b xmlns='' xmlns:p='w' xmlns:q='u'><c/>t</b></a>")
	b := n.Kids[0]
	for _, c := range []struct {
		n     *tree.Node
		qname string
		want  api.Name
		err   api.Errno
	}{
		{n, "x", name("u", "x"), api.OK},
		{n, "p:x", name("v", "x"), api.OK},
		{n, "xml:x", name(api.XML, "x"), api.OK},
		{n, "q:x", api.Name{}, api.ErrNone},
		{n, "P:x", api.Name{}, api.ErrNone},
		{n, "xmlns:p", api.Name{}, api.ErrNone},
		{n, "xmlns", name("u", "xmlns"), api.OK},
		{n, "xml", name("u", "xml"), api.OK},
		{n, "", api.Name{}, api.ErrForm},
		{n, ":x", api.Name{}, api.ErrForm},
		{n, "p:", api.Name{}, api.ErrForm},
		{n, "q:1", api.Name{}, api.ErrForm},
		{n, "p:x:y", api.Name{}, api.ErrForm},
		{n, " p:x", api.Name{}, api.ErrForm},
		{n, "\xff", api.Name{}, api.ErrForm},
		{b, "x", name("", "x"), api.OK},
		{b, "p:x", name("w", "x"), api.OK},
		{b.Kids[0], "q:x", name("u", "x"), api.OK},
		{b.Kids[0], "x", name("", "x"), api.OK},
		{elem("u", "a"), "x", name("", "x"), api.OK},
		{elem("u", "a"), "xml:x", name(api.XML, "x"), api.OK},
		{elem("u", "a"), "p:x", api.Name{}, api.ErrNone},
		{&tree.Node{Binds: []ns.Bind{{Prefix: "xml", Space: "u"}}}, "xml:x", name(api.XML, "x"), api.OK},
		{&tree.Node{Binds: []ns.Bind{{Prefix: "p", Space: "u"}, {Prefix: "p", Space: "v"}}}, "p:x", name("u", "x"), api.OK},
	} {
		if got, err := tree.Resolve(c.n, c.qname); got != c.want || err != c.err {
			t.Errorf("%s: %q: %v, %v", tell(c.n), c.qname, got, err)
		}
	}
}

func TestP2ParseKeepsNothing(t *testing.T) {
	doc := []byte("<a xmlns:p='u' p:x='1' y='2'>t<p:b z='3'/></a>    ")
	was := string(doc)
	n, _, _ := tree.Parse(doc[:len(doc)-4], api.Limits{})
	if string(doc) != was {
		t.Error("what was handed in is changed")
	}
	want := tell(n)
	clear(doc)
	if tell(n) != want {
		t.Error("what was handed in is kept")
	}
}

// TestP2ParseListsAreApart: to write all over one node's lists, their spare
// room too, turns nothing of another node.
func TestP2ParseListsAreApart(t *testing.T) {
	doc := "<a xmlns:p='u' p:x='1' y='2'>t<p:b z='3'><c/><c w=''/>u</p:b><d xmlns='v' x=''/></a>"
	whole := collect(tree.Walk(parsed(t, doc)))
	for i := range whole {
		spoilt := collect(tree.Walk(parsed(t, doc)))
		l := spoilt[i].node
		clear(l.Attrs[:cap(l.Attrs)])
		clear(l.Binds[:cap(l.Binds)])
		clear(l.Kids[:cap(l.Kids)])
		for j, s := range spoilt {
			if j != i && (len(s.node.Kids) != len(whole[j].node.Kids) || slices.Contains(s.node.Kids, nil) || bare(s.node) != bare(whole[j].node)) {
				t.Errorf("%s by %s", bare(s.node), bare(whole[i].node))
			}
		}
	}
}

// bare tells a node without its Kids.
func bare(n *tree.Node) string {
	alone := *n
	alone.Kids = nil
	return tell(&alone)
}

package tree_test

import (
	"maps"
	"slices"
	"strings"
	"testing"

	"rubric/api"
	"rubric/ns"
	"rubric/tree"
	"rubric/xml"
)

// writer writes a document, and makes the tree that it must have.
type writer struct {
	*dice
	doc string
}

func (w *writer) blanks() {
	w.doc += w.one(" ", "\n", " \t ")
}

func (w *writer) aside() {
	w.doc += w.one("", "", "<!--<x>-->", "<?p <y/>?>")
}

// text writes a text into n, maybe in pieces; an empty one is none.
func (w *writer) text(n *tree.Node) {
	var k tree.Node
	for range w.throw(4) {
		w.aside()
		at := len(w.doc)
		piece := [][2]string{{"x", "x"}, {" \r\n", " \n"}, {"&lt;", "<"}, {"<![CDATA[<&]]>", "<&"}, {"&#13;", "\r"}, {"\u20ac", "\u20ac"}}[w.throw(6)]
		if k.Text == "" {
			k.At = at
		}
		w.doc += piece[0]
		k.Text += piece[1]
	}
	w.aside()
	if k.Text != "" {
		n.Kids = append(n.Kids, &k)
	}
}

// bind writes bindings, and answers what is bound then.
func (w *writer) bind(bound map[string]string) map[string]string {
	bound = maps.Clone(bound)
	for _, prefix := range []string{"", "q", "p", "xml"} {
		if w.throw(4) > 0 {
			continue
		}
		w.blanks()
		space := w.one("u", "v", "w&amp;")
		switch prefix {
		case "":
			space = w.one("", space)
			w.doc += "xmlns='" + space + "'"
		case "xml":
			w.doc += "xmlns:xml='" + api.XML + "'"
			continue
		default:
			w.doc += "xmlns:" + prefix + "='" + space + "'"
		}
		bound[prefix] = strings.ReplaceAll(space, "&amp;", "&")
	}
	return bound
}

func (w *writer) attrs(n *tree.Node, bound map[string]string) {
	for _, prefix := range []string{"p", "", "xml", "q"} {
		space, is := bound[prefix]
		written := prefix + ":x"
		switch prefix {
		case "":
			space, is, written = "", true, "x"
		case "xml":
			space, is = api.XML, true
		}
		if _, twice := n.Attr(name(space, "x")); !is || twice || w.throw(2) == 0 {
			continue
		}
		w.blanks()
		a := ns.Attr{Name: name(space, "x"), Value: w.one("", "1", " "), At: len(w.doc)}
		w.doc += written + "=\"" + a.Value + "\""
		n.Attrs = append(n.Attrs, a)
	}
}

func (w *writer) element(depth int, bound map[string]string) *tree.Node {
	n := &tree.Node{At: len(w.doc)}
	// The name stands ahead of what binds its prefix.
	front := w.doc + "<"
	w.doc = ""
	bound = w.bind(bound)
	binds := w.doc
	local := w.one("a", "b")
	prefix := w.one("", "p", "q", "xml")
	space, is := bound[prefix]
	if prefix == "xml" {
		space, is = api.XML, true
	}
	written := prefix + ":" + local
	if !is || prefix == "" {
		space, written = bound[""], local
	}
	n.Name = name(space, local)
	w.doc = front + written + binds
	w.attrs(n, bound)
	for _, p := range slices.Sorted(maps.Keys(bound)) {
		if bound[p] != "" {
			n.Binds = append(n.Binds, ns.Bind{Prefix: p, Space: bound[p]})
		}
	}
	w.doc += w.one("", " ")
	if w.throw(4) == 0 {
		n.End = len(w.doc)
		w.doc += "/>"
		return n
	}
	w.doc += ">"
	for range w.throw(5 - depth) {
		w.text(n)
		n.Kids = append(n.Kids, w.element(depth+1, bound))
	}
	w.text(n)
	n.End = len(w.doc)
	w.doc += "</" + written + ">"
	return n
}

// written answers a document and its tree.
func written(d *dice) (string, *tree.Node) {
	w := &writer{dice: d}
	w.doc = w.one("", "<?xml version='1.0'?>", "\n")
	w.aside()
	n := w.element(0, map[string]string{})
	w.aside()
	return w.doc, n
}

func TestP401WrittenDocuments(t *testing.T) {
	d := dice(7)
	for range 4000 {
		doc, want := written(&d)
		if n := parsed(t, doc); tell(n) != tell(want) {
			t.Fatalf("%s\n%s\n%s", doc, tell(n), tell(want))
		}
	}
}

// firstFault says what Parse must, by all events at once.
func firstFault(doc string, l api.Limits) (int, api.Errno) {
	events, at, err := xml.All([]byte(doc), l)
	s := ns.New()
	for _, e := range events {
		switch e.Kind {
		case xml.Start:
			if _, at, err := s.Open(e); err != api.OK {
				return at, api.ErrForm
			}
		case xml.End:
			s.Close()
		}
	}
	return at, err
}

func TestP401SpoiltDocuments(t *testing.T) {
	d := dice(8)
	count := map[api.Errno]int{}
	for range 20000 {
		doc, _ := written(&d)
		i := d.throw(len(doc))
		j := min(i+d.throw(4), len(doc))
		doc = doc[:i] + d.one("", "<", ">", "q:", "xmlns:", ":", "x", "=", "'", "xmlns=''", " xmlns:p='' ", "&", "<q:a/>", "<r:a>", "</a>", "\xff") + doc[j:]
		l := api.Limits{Depth: d.throw(8), Nodes: d.throw(40), Attrs: d.throw(8), Token: d.throw(30)}
		n, at, err := tree.Parse([]byte(doc), l)
		wantAt, wantErr := firstFault(doc, l)
		if at != wantAt || err != wantErr || (n == nil) != (err != api.OK) {
			t.Fatalf("%q: %d, %v; not %d, %v", doc, at, err, wantAt, wantErr)
		}
		count[err]++
	}
	if min(count[api.OK], count[api.ErrForm], count[api.ErrMany]) < 500 {
		t.Error(count)
	}
}

// TestP402ResolveAsScopes: in each element what its scope says.
func TestP402ResolveAsScopes(t *testing.T) {
	d := dice(9)
	qnames := []string{"x", "p:x", "q:x", "r:x", "xml:x", "xmlns:x", "xmlns", ":x", "x:", "p:q:x", "", "p:1", "r:1"}
	for range 1000 {
		doc, _ := written(&d)
		var elems []*tree.Node
		for _, n := range tree.Walk(parsed(t, doc)) {
			if n.Elem() {
				elems = append(elems, n)
			}
		}
		events, _, _ := xml.All([]byte(doc), api.Limits{})
		s := ns.New()
		for _, e := range events {
			if e.Kind == xml.End {
				s.Close()
			}
			if e.Kind != xml.Start {
				continue
			}
			s.Open(e)
			for _, q := range qnames {
				got, err := tree.Resolve(elems[0], q)
				if want, wantErr := s.Resolve(q); got != want || err != wantErr {
					t.Fatalf("%s: %q at %d: %v, %v", doc, q, elems[0].At, got, err)
				}
			}
			elems = elems[1:]
		}
	}
}

// TestP401ManyBinds: as many as a document has room for, in each of many elements.
func TestP401ManyBinds(t *testing.T) {
	var doc strings.Builder
	for i := range 40 {
		doc.WriteString("<a")
		for j := range 64 {
			doc.WriteString(" xmlns:" + string(rune('a'+i%26)) + string(rune('A'+i/26)) + string(rune('0'+j/10)) + string(rune('0'+j%10)) + "='u'")
		}
		doc.WriteString(">")
	}
	doc.WriteString(strings.Repeat("<b/>", 1000))
	doc.WriteString(strings.Repeat("</a>", 40))
	deepest := 0
	for d, n := range tree.Walk(parsed(t, doc.String())) {
		deepest = max(deepest, d)
		if n.Name.Local == "b" && len(n.Binds) != 40*64 || n.Name.Local == "a" && len(n.Binds) != d*64 {
			t.Fatalf("%d: %d", d, len(n.Binds))
		}
		if !slices.IsSortedFunc(n.Binds, func(a, b ns.Bind) int { return strings.Compare(a.Prefix, b.Prefix) }) {
			t.Fatal("not rising")
		}
	}
	if deepest != 41 {
		t.Error(deepest)
	}
}

// TestP3ParseAgain: the same bytes answer the same.
func TestP3ParseAgain(t *testing.T) {
	d := dice(10)
	for range 200 {
		doc, _ := written(&d)
		if tell(parsed(t, doc)) != tell(parsed(t, doc)) {
			t.Fatal(doc)
		}
	}
}

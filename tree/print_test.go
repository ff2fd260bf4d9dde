package tree_test

import (
	"bytes"
	"slices"
	"strconv"
	"strings"
	"testing"
	"unicode/utf8"

	"rubric/api"
	"rubric/ns"
	"rubric/tree"
)

// dice are numbers that look thrown, the same in each run.
type dice uint64

func (d *dice) throw(n int) int {
	*d = *d*6364136223846793005 + 1442695040888963407
	return int(*d>>33) % n
}

func (d *dice) one(of ...string) string {
	return of[d.throw(len(of))]
}

func (d *dice) space() string {
	return d.one("", "", "u", "v", "w", api.XML, api.XS, "\"'<&>", " \t\n\r", "\u20ac\U0001F600")
}

func (d *dice) local() string {
	return d.one("a", "b", "x", "y", "xml", "xmlns", "\u00e9t\u00e9", "a-b.c_1")
}

func (d *dice) string() string {
	return d.one("x", " ", "\n", "\r\n", "\t", "<&>\"'", "]]>", "&amp;", "\u20ac\U0001F600", "a  b", "<!--", "<![CDATA[x]]>")
}

// right answers a tree that a document has.
func (d *dice) right(depth int) *tree.Node {
	n := elem(d.space(), d.local())
	for range d.throw(4) {
		a := ns.Attr{Name: name(d.space(), d.local()), Value: d.one("", d.string())}
		if _, is := n.Attr(a.Name); !is && a.Name != name("", "xmlns") {
			n.Attrs = append(n.Attrs, a)
		}
	}
	for i := 0; depth > 1 && i < d.throw(5); i++ {
		if d.throw(2) == 0 {
			n.Kids = append(n.Kids, text(d.string()))
		}
		n.Kids = append(n.Kids, d.right(depth-1))
	}
	if d.throw(3) == 0 {
		n.Kids = append(n.Kids, text(d.string()))
	}
	return n
}

// chars tells whether all of s are letters, and Chars.
func chars(s string) bool {
	return utf8.ValidString(s) && !strings.ContainsFunc(s, func(r rune) bool {
		return r < ' ' && r != '\t' && r != '\n' && r != '\r' || r == 0xFFFE || r == 0xFFFF
	})
}

// ncname tells it of the letters that these tests have in names.
func ncname(s string) bool {
	return s != "" && !strings.ContainsAny(s, " :<>&\"'=/!?\x01\xff") && !strings.ContainsAny(s[:1], "-.0123456789")
}

func rightName(n api.Name) bool {
	return ncname(n.Local) && chars(n.Space) && n.Space != api.XMLNS
}

// printable says the chapter's list once more, but for the limits.
func printable(n *tree.Node) bool {
	if !rightName(n.Name) || n.Text != "" {
		return false
	}
	for i, a := range n.Attrs {
		if !rightName(a.Name) || !chars(a.Value) || a.Name == name("", "xmlns") {
			return false
		}
		for _, b := range n.Attrs[:i] {
			if a.Name == b.Name {
				return false
			}
		}
	}
	for i, k := range n.Kids {
		if k.Name.Local != "" {
			if !printable(k) {
				return false
			}
			continue
		}
		if k.Name.Space != "" || len(k.Attrs)+len(k.Kids) > 0 || k.Text == "" || !chars(k.Text) || i > 0 && n.Kids[i-1].Name.Local == "" {
			return false
		}
	}
	return true
}

// form tells a tree so that just those that are the same are told alike.
func form(n *tree.Node) string {
	l := []string{}
	for _, a := range n.Attrs {
		l = append(l, strconv.Quote(a.Name.Space)+strconv.Quote(a.Name.Local)+strconv.Quote(a.Value))
	}
	slices.Sort(l)
	s := "(" + strconv.Quote(n.Name.Space) + strconv.Quote(n.Name.Local) + strconv.Quote(n.Text) + "[" + strings.Join(l, ",") + "]"
	for _, k := range n.Kids {
		s += form(k)
	}
	return s + ")"
}

// checkPrint prints n, and answers the document.
func checkPrint(t *testing.T, n *tree.Node) []byte {
	t.Helper()
	b, err := tree.Print(n)
	if err != api.OK {
		t.Fatalf("%.300s: %v", form(n), err)
	}
	m, at, err := tree.Parse(b, api.Limits{})
	if err != api.OK || form(m) != form(n) || !tree.Same(n, m) {
		t.Fatalf("%.300s: %.300q: %d, %v", form(n), b, at, err)
	}
	return b
}

func checkNot(t *testing.T, n *tree.Node) {
	t.Helper()
	if b, err := tree.Print(n); len(b) > 0 || err != api.ErrNot {
		t.Fatalf("%.300s: %.300q, %v", form(n), b, err)
	}
}

func TestP403Print(t *testing.T) {
	for i, n := range []*tree.Node{
		elem("", "a"),
		elem("u", "a"),
		elem(api.XML, "a"),
		elem(api.XS, "a", elem(api.XSI, "a"), elem(api.XS, "b")),
		elem("", "xmlns"),
		elem("u", "xmlns"),
		elem("", "xml", elem("", "XML")),
		elem("", "a", text("x")),
		elem("", "a", text(" ")),
		elem("", "a", text("\t\n\r \r\n")),
		elem("", "a", text("x<&>\"']]>&lt;")),
		elem("", "a", text("x"), elem("", "b"), text("y"), elem("", "b"), text("z")),
		elem("", "a", elem("", "b"), elem("", "b", text("y")), elem("", "c", elem("", "d"))),
		elem("u", "a", elem("", "b", elem("u", "c", elem("", "d"), elem("v", "d")), elem("", "e"))),
		elem("", "a", elem("u", "b", elem("", "c", elem("u", "d"))), elem("u", "b")),
		elem("u", "a", elem(api.XML, "b", elem("u", "c"), elem("", "c"), elem(api.XML, "c"))),
		with(elem("", "a"), "", "x", ""),
		with(elem("", "a"), "", "x", "'\"\t\n\r <&>]]>&lt;"),
		with(elem("", "a"), "u", "x", "1", "", "x", "2", "v", "x", "3", "u", "y", "4"),
		with(elem("u", "a"), "u", "x", "1", "", "x", "2"),
		with(elem("u", "a"), "u", "xmlns", "1", api.XML, "lang", "2", api.XML, "xmlns", "3", "", "xml", "4", "", "xmlnsx", "5"),
		with(elem("\" \t\n\r<&>'", "a", elem(" ", "b"), elem("  ", "b")), "\"", "x", "", "'", "x", ""),
		elem("", "a", with(elem("", "b"), "u", "x", ""), with(elem("u", "b", with(elem("", "c"), "u", "y", "")), "v", "x", "")),
		elem("", "\u00e9t\u00e9", text("\u20ac\U0001F600")),
		elem("%zz not a place", "a-b.c_1"),
	} {
		if !printable(n) {
			t.Errorf("%d: the test is wrong", i)
		}
		checkPrint(t, n)
	}
}

// TestP403Plain: the bytes are the program's own, but no more than they need be.
func TestP403Plain(t *testing.T) {
	for want, n := range map[string]*tree.Node{
		`<a/>`:                                  elem("", "a"),
		`<a x="1">t<b/></a>`:                    with(elem("", "a", text("t"), elem("", "b")), "", "x", "1"),
		`<a xmlns="u"><b><c/></b></a>`:          elem("u", "a", elem("u", "b", elem("u", "c"))),
		`<a xmlns:a="u"><a:b><c/></a:b></a>`:    elem("", "a", elem("u", "b", elem("", "c"))),
		`<a xmlns="u" xmlns:a="u" a:x="1"/>`:    with(elem("u", "a"), "u", "x", "1"),
		`<xml:a xml:lang="e"><b/></xml:a>`:      with(elem(api.XML, "a", elem("", "b")), api.XML, "lang", "e"),
		`<a xmlns="u"><b xmlns=""><c/></b></a>`: elem("u", "a", elem("", "b", elem("", "c"))),
	} {
		if b := checkPrint(t, n); string(b) != want {
			t.Errorf("%s, not %s", b, want)
		}
	}
}

func TestP403Not(t *testing.T) {
	spaced, told, kidded := text("x"), text("x"), text("x")
	spaced.Name.Space = "u"
	with(told, "", "x", "")
	kidded.Kids = []*tree.Node{elem("", "b")}
	texted := elem("", "b")
	texted.Text = "x"
	for i, n := range []*tree.Node{
		text(""), text("x"), text("<a/>"), spaced, told, kidded, texted, {},
		elem("u", ""),
		elem("", "a", spaced), elem("", "a", told), elem("", "a", kidded), elem("", "a", texted),
		elem("", "a", text("")),
		elem("", "a", text(""), elem("", "b")),
		elem("", "a", text("x"), text("")),
		elem("", "a", text("x"), text("y")),
		elem("", "a", elem("", "b"), text("x"), text("y")),
		elem("", "a", elem("", "b", text("x"), text("y"))),
		elem("", "a", text("x\x00")), elem("", "a", text("\x01")), elem("", "a", text("\xff")), elem("", "a", text("x\uFFFE")),
		elem("", "a", text("\xe2\x82")), elem("", "a", text("\xed\xa0\x80")), elem("", "a", text("\xc0\x80")),
		elem("", " "), elem("", "a b"), elem("", "a:b"), elem("", ":"), elem("", "1"), elem("", "-"), elem("", "a>"), elem("", "a/"),
		elem("", "a x='1'"), elem("", "a x=\"1\""), elem("", "a\xff"), elem("", "a\x01"), elem("", "!--"), elem("", "?a"), elem("", "/a"),
		elem("\x01", "a"), elem("u\xff", "a"), elem("\uFFFF", "a"), elem(api.XMLNS, "a"), elem(api.XMLNS, "xmlns"),
		elem("", "a", elem(api.XMLNS, "b")), elem("", "a", elem("\x01", "b")),
		with(elem("", "a"), "", "x", "\x01"), with(elem("", "a"), "", "x", "\xff"), with(elem("", "a"), "u", "x", "\uFFFE"),
		with(elem("", "a"), "\x01", "x", ""), with(elem("", "a"), api.XMLNS, "x", ""), with(elem("", "a"), api.XMLNS, "xmlns", api.XMLNS),
		with(elem("", "a"), "", "", ""), with(elem("", "a"), "u", "", ""), with(elem("", "a"), "", " ", ""), with(elem("", "a"), "", "x y", ""),
		with(elem("", "a"), "", "p:x", ""), with(elem("", "a"), "", "xml:x", ""), with(elem("", "a"), "", "x='1' y", ""), with(elem("", "a"), "u", "1", ""),
		with(elem("", "a"), "", "xmlns", ""), with(elem("", "a"), "", "xmlns", "u"), with(elem("u", "a"), "", "xmlns", "u"),
		with(elem("", "a"), "", "xmlns:p", "u"), with(elem("", "a"), "", "xmlns:xml", api.XML),
		with(elem("", "a"), "", "x", "1", "", "x", "1"), with(elem("", "a"), "", "x", "1", "", "y", "", "", "x", "2"),
		with(elem("", "a"), "u", "x", "1", "u", "x", "1"), with(elem("", "a"), api.XML, "x", "", api.XML, "x", ""),
		elem("", "a", elem("u", "b", with(elem("", "c"), "", "x", "1", "", "x", "1"))),
	} {
		if printable(n) {
			t.Errorf("%d: the test is wrong", i)
		}
		checkNot(t, n)
	}
}

func TestP403RightTrees(t *testing.T) {
	d := dice(3)
	for range 5000 {
		checkPrint(t, d.right(5))
	}
}

// spoil does something to a node that may not be, often.
func (d *dice) spoil(n *tree.Node) {
	switch d.throw(8) {
	case 0:
		n.Text = d.one("", "x", "\x01")
	case 1:
		n.Name.Local = d.one("", "a", "a b", "a:b", "1", "xmlns")
	case 2:
		n.Name.Space = d.one("", "u", api.XMLNS, "\xff")
	case 3:
		n.Kids = slices.Insert(slices.Clone(n.Kids), d.throw(len(n.Kids)+1), text(d.one("", "x", "\uFFFE")))
	case 4:
		n.Kids = slices.Insert(slices.Clone(n.Kids), d.throw(len(n.Kids)+1), d.right(1))
	case 5:
		with(n, d.one("", "u", api.XMLNS), d.one("x", "y", "xmlns", "xmlns:a", "a:x", ""), d.one("", "u", "\x01"))
	case 6:
		if len(n.Attrs) > 0 {
			n.Attrs = append(n.Attrs, n.Attrs[0])
		}
	case 7:
		if len(n.Kids) > 0 {
			i := d.throw(len(n.Kids))
			n.Kids = slices.Delete(slices.Clone(n.Kids), i, i+1)
		}
	}
}

func TestP403SpoiltTrees(t *testing.T) {
	d := dice(4)
	count := [2]int{}
	for range 20000 {
		n := d.right(3)
		l := collect(tree.Walk(n))
		for range 1 + d.throw(2) {
			d.spoil(l[d.throw(len(l))].node)
		}
		if printable(n) {
			checkPrint(t, n)
			count[0]++
		} else {
			checkNot(t, n)
			count[1]++
		}
	}
	if min(count[0], count[1]) < 3000 {
		t.Error(count)
	}
}

// TestP2PrintChangesNothing: what is handed in stays as it is, its spare room
// too, and two answers share nothing.
func TestP2PrintChangesNothing(t *testing.T) {
	d := dice(5)
	for range 300 {
		n := d.right(4)
		for _, s := range collect(tree.Walk(n)) {
			s.node.Attrs = append(s.node.Attrs, ns.Attr{Value: "spare"})[:len(s.node.Attrs)]
			s.node.Kids = append(s.node.Kids, nil)[:len(s.node.Kids)]
			s.node.At, s.node.End, s.node.Binds = d.throw(9), d.throw(9), []ns.Bind{{Prefix: "a", Space: "o"}}
		}
		was := tell(n)
		b := checkPrint(t, n)
		again := checkPrint(t, n)
		if !bytes.Equal(b, again) {
			t.Fatalf("P3: %q, %q", b, again)
		}
		clear(b[:cap(b)])
		if !bytes.Equal(again, checkPrint(t, n)) || tell(n) != was {
			t.Fatalf("%s, %s", tell(n), was)
		}
		for _, s := range collect(tree.Walk(n)) {
			if a, k := s.node.Attrs, s.node.Kids; a[:len(a)+1][len(a)].Value != "spare" || k[:len(k)+1][len(k)] != nil {
				t.Fatal("spare room")
			}
		}
	}
}

package tree

import (
	"cmp"
	"slices"

	"rubric/api"
	"rubric/ns"
	"rubric/xml"
)

// mark is a space of a tree, with the prefix that it has in the whole document.
type mark struct {
	space, prefix string
	uses          int  // how many names may need the prefix
	tight         int  // how many letters of three an attribute's name leaves no room for
	bound         bool // where the writer is now
}

// spares tells how much less is to be written, if the root binds it for all.
func (m *mark) spares() int {
	return (m.uses - 1) * (len(m.space) + len(` xmlns:p=""`))
}

// fits tells whether a name with the prefix is not too long.
func (m *mark) fits(local string) bool {
	return len(m.prefix)+len(":")+len(local) <= api.MaxToken
}

// writer writes a tree as a document, also one that no document has.
type writer struct {
	out       []byte
	marks     []*mark // the ones to bind first stand first
	bySpace   map[string]*mark
	byDefault string // what a tag's name without a prefix has for its space
}

// Print answers a document whose tree is the same as n; or ErrNot, if there is none.
func Print(n *Node) ([]byte, api.Errno) {
	// An element has two tags at most, and a text stands between two tags.
	l := rows(n, 3*api.MaxNodes)
	if l == nil || slices.ContainsFunc(l, beyond) {
		return nil, api.ErrNot
	}
	w := newWriter(l)
	w.node(n, w.marks)
	// What may not be in a tree does not come back as it was, whatever it is: to
	// look at what comes back finds all of it.
	m, _, err := Parse(w.out, api.Limits{})
	if err != api.OK || !Same(n, m) {
		return nil, api.ErrNot
	}
	return w.out, api.OK
}

// beyond tells whether a node by itself goes beyond the limits: one that stands
// in many places would be much to write ahead of the look at it.
func beyond(r row) bool {
	n := r.node
	return len(n.Attrs) > api.MaxAttrs || long(n.Name, n.Text) ||
		slices.ContainsFunc(n.Attrs, func(a ns.Attr) bool { return long(a.Name, a.Value) })
}

func long(n api.Name, s string) bool {
	return max(len(n.Space), len(n.Local), len(s)) > api.MaxToken
}

// newWriter answers a writer of the tree that has those rows: each of its
// spaces has a prefix, so that none hides another one.
func newWriter(l []row) *writer {
	w := &writer{bySpace: map[string]*mark{api.XML: {prefix: "xml", bound: true}}}
	for _, r := range l {
		w.count(r.node)
	}
	slices.SortStableFunc(w.marks, func(a, b *mark) int {
		return cmp.Or(cmp.Compare(b.tight, a.tight), cmp.Compare(b.spares(), a.spares()))
	})
	for i, m := range w.marks {
		m.prefix = prefix(i)
	}
	return w
}

// count notes which spaces n's attributes and Kids need. A kid of n's own space
// can do without, since its name can have n's prefix or none.
func (w *writer) count(n *Node) {
	for _, a := range n.Attrs {
		w.use(a.Name.Space, len(a.Name.Local)+len("abc:")-api.MaxToken)
	}
	for _, k := range n.Kids {
		if k.Name.Space != n.Name.Space {
			w.use(k.Name.Space, 0)
		}
	}
}

func (w *writer) use(space string, tight int) {
	if space == "" {
		return
	}
	m := w.bySpace[space]
	if m == nil {
		m = &mark{space: space}
		w.bySpace[space] = m
		w.marks = append(w.marks, m)
	}
	m.uses++
	m.tight = max(m.tight, tight)
}

// prefix answers the one of that number, short ones first. No x is in them, so
// that none is `xml`.
func prefix(i int) string {
	const letters = "abcdefghijklmnopqrstuvwyzABCDEFGHIJKLMNOPQRSTUVWXYZ_"
	s := ""
	for ; i >= 0; i = i/len(letters) - 1 {
		s = string(letters[i%len(letters)]) + s
	}
	return s
}

// node writes n. If it is an element, it binds those of spare too for which it
// has room.
func (w *writer) node(n *Node, spare []*mark) {
	if w.full() {
		return
	}
	if !n.Elem() {
		w.put(xml.Escape(n.Text, false))
		return
	}
	outer := w.byDefault
	name := w.tagName(n.Name)
	w.put("<", name)
	room := api.MaxAttrs - len(n.Attrs)
	if w.byDefault != outer {
		w.attr("", "xmlns", w.byDefault)
		room--
	}
	bound := w.bind(n, spare, room)
	for _, a := range n.Attrs {
		w.attr(w.attrPrefix(a.Name), a.Name.Local, a.Value)
	}
	w.content(n, name)
	for _, m := range bound {
		m.bound = false
	}
	w.byDefault = outer
}

// content writes what follows the attributes of n, whose tags have that name.
func (w *writer) content(n *Node, name string) {
	if len(n.Kids) == 0 {
		w.put("/>")
		return
	}
	w.put(">")
	for _, k := range n.Kids {
		w.node(k, nil)
	}
	w.put("</", name, ">")
}

// tagName answers a tag's name as it is written here. If no prefix that is
// bound will do, its space is the default from here on.
func (w *writer) tagName(n api.Name) string {
	if n.Space == w.byDefault {
		return n.Local
	}
	if m := w.bySpace[n.Space]; m != nil && m.bound && m.fits(n.Local) {
		return m.prefix + ":" + n.Local
	}
	w.byDefault = n.Space
	return n.Local
}

// attrPrefix answers what stands ahead of the local part of an attribute's name.
func (w *writer) attrPrefix(n api.Name) string {
	if n.Space == "" {
		return ""
	}
	return w.bySpace[n.Space].prefix + ":"
}

// bind binds what n's attributes need and nothing around n binds, then those of
// spare while there is room, and answers what it bound.
func (w *writer) bind(n *Node, spare []*mark, room int) []*mark {
	var l []*mark
	for _, a := range n.Attrs {
		if m := w.bySpace[a.Name.Space]; m != nil && !m.bound {
			m.bound = true
			l = append(l, m)
		}
	}
	for _, m := range spare {
		if !m.bound && len(l) < room {
			m.bound = true
			l = append(l, m)
		}
	}
	for _, m := range l {
		w.attr("xmlns:", m.prefix, m.space)
	}
	return l
}

func (w *writer) attr(prefix, local, value string) {
	if !w.full() {
		w.put(" ", prefix, local, `="`, xml.Escape(value, true), `"`)
	}
}

// full tells whether there is more already than a document may have: then
// nothing is to be added, however much is left.
func (w *writer) full() bool { return len(w.out) > api.MaxText }

func (w *writer) put(pieces ...string) {
	for _, s := range pieces {
		w.out = append(w.out, s...)
	}
}

package tree_test

import (
	"iter"
	"runtime/debug"
	"slices"
	"strconv"
	"strings"
	"testing"

	"rubric/api"
	"rubric/ns"
	"rubric/tree"
)

type step struct {
	depth int
	node  *tree.Node
}

func collect(seq iter.Seq2[int, *tree.Node]) []step {
	var l []step
	for d, n := range seq {
		l = append(l, step{d, n})
	}
	return l
}

// steps says by recursion what Walk must tell.
func steps(n *tree.Node, depth int) []step {
	l := []step{{depth, n}}
	for _, k := range n.Kids {
		l = append(l, steps(k, depth+1)...)
	}
	return l
}

// deep says by recursion what Depth must.
func deep(n *tree.Node) int {
	if n.Name.Local == "" {
		return 0
	}
	most := 0
	for _, k := range n.Kids {
		most = max(most, deep(k))
	}
	return 1 + most
}

func TestP402Walk(t *testing.T) {
	for doc, want := range map[string]string{
		"<a/>":                              "1a",
		"<a>t</a>":                          "1a 2",
		"<a><b><c/></b><d/></a>":            "1a 2b 3c 2d",
		"<a>t<b>u<c/>v</b>w<d><e/></d></a>": "1a 2 2b 3 3c 3 2 2d 3e",
	} {
		var l []string
		for d, n := range tree.Walk(parsed(t, doc)) {
			l = append(l, strconv.Itoa(d)+n.Name.Local)
		}
		if got := strings.Join(l, " "); got != want {
			t.Errorf("%q: %s", doc, got)
		}
	}
	x := text("x")
	if l := collect(tree.Walk(x)); len(l) != 1 || l[0] != (step{1, x}) {
		t.Errorf("%v", l)
	}
}

func TestP402SizeDepth(t *testing.T) {
	for doc, want := range map[string][2]int{
		"<a/>":                              {1, 1},
		"<a>t</a>":                          {2, 1},
		"<a>t<b/>u</a>":                     {4, 2},
		"<a><b>t</b></a>":                   {3, 2},
		"<a><b><c/></b><d/></a>":            {4, 3},
		"<a><d/><b><c/>t</b></a>":           {5, 3},
		"<a>t<b>u<c/>v</b>w<d><e/></d></a>": {9, 3},
	} {
		n := parsed(t, doc)
		if got := [2]int{tree.Size(n), tree.Depth(n)}; got != want {
			t.Errorf("%q: %v", doc, got)
		}
	}
	if tree.Size(text("x")) != 1 || tree.Depth(text("x")) != 0 {
		t.Error("of a text: 1, 0")
	}
}

func TestP402WalkByRecursion(t *testing.T) {
	d := dice(1)
	for range 2000 {
		n := d.right(4)
		want := steps(n, 1)
		if !slices.Equal(collect(tree.Walk(n)), want) || tree.Size(n) != len(want) || tree.Depth(n) != deep(n) {
			t.Fatal(tell(n))
		}
	}
}

// TestP402DepthOfTexts: a text counts 0 with all that is in it, wherever it stands.
func TestP402DepthOfTexts(t *testing.T) {
	in := func(kids ...*tree.Node) *tree.Node { return &tree.Node{Text: "t", Kids: kids} }
	a := func(kids ...*tree.Node) *tree.Node { return elem("", "a", kids...) }
	spaced := &tree.Node{Name: name("u", ""), Kids: []*tree.Node{a()}}
	for i, c := range []struct {
		n           *tree.Node
		size, depth int
	}{
		{in(a()), 2, 0},
		{&tree.Node{Kids: []*tree.Node{a()}}, 2, 0},
		{spaced, 2, 0},
		{in(in(a(a()))), 4, 0},
		{in(a(), in(), a(a())), 5, 0},
		{a(in(a())), 3, 1},
		{a(spaced), 3, 1},
		{a(in(a(a(in(a()))))), 6, 1},
		{a(in(in(a()))), 4, 1},
		{a(in(a()), a(in())), 5, 2},
		{a(a(in()), in(a())), 5, 2},
		{a(in(), a(a())), 4, 3},
		{a(in(in(), a(a())), in(a())), 7, 1},
		{a(in(a(a())), a(in(a(a()))), a(a())), 10, 3},
		{a(a(a(in(a()))), in(a(a(a(a()))))), 10, 3},
		{in(a(), a()), 3, 0},
	} {
		if tree.Depth(c.n) != c.depth || tree.Size(c.n) != c.size {
			t.Errorf("%d: depth %d, size %d; want %d, %d", i, tree.Depth(c.n), tree.Size(c.n), c.depth, c.size)
		}
	}
	d := dice(3)
	for range 2000 {
		n := d.right(5)
		for _, s := range collect(tree.Walk(n)) {
			if d.throw(6) == 0 {
				s.node.Name.Local = ""
			}
		}
		want := steps(n, 1)
		if !slices.Equal(collect(tree.Walk(n)), want) || tree.Size(n) != len(want) || tree.Depth(n) != deep(n) {
			t.Fatal(tell(n))
		}
	}
}

// TestP402Shared: a node may stand at several places.
func TestP402Shared(t *testing.T) {
	x := elem("", "x", text("t"))
	n := elem("", "a", x, elem("", "b", x, x), x)
	if l := collect(tree.Walk(n)); !slices.Equal(l, steps(n, 1)) || tree.Size(n) != 10 || tree.Depth(n) != 3 {
		t.Errorf("%v", l)
	}
	y := func() *tree.Node { return elem("", "x", text("t")) }
	if !tree.Same(n, elem("", "a", y(), elem("", "b", y(), y()), y())) {
		t.Error("Same")
	}
}

func TestP7WalkLeftEarlyAndAgain(t *testing.T) {
	n := parsed(t, "<a>t<b>u</b>v</a>")
	seq := tree.Walk(n)
	want := steps(n, 1)
	for stop := range len(want) + 1 {
		var l []step
		for d, k := range seq {
			if len(l) == stop {
				break
			}
			l = append(l, step{d, k})
		}
		if !slices.Equal(l, want[:stop]) {
			t.Errorf("%d: %v", stop, l)
		}
	}
	if !slices.Equal(collect(seq), want) {
		t.Error("again")
	}
	for range seq {
		if !slices.Equal(collect(seq), want) {
			t.Fatal("one within another")
		}
	}
}

// TestP7WalkAsItWas: what is done to the tree behind Walk, even on the way, is
// not seen.
func TestP7WalkAsItWas(t *testing.T) {
	n := parsed(t, "<a>t<b>u</b>v</a>")
	seq := tree.Walk(n)
	want := steps(n, 1)
	n.Kids[1].Kids = append(n.Kids[1].Kids, elem("", "c"))
	n.Kids[0] = elem("", "d")
	if !slices.Equal(collect(seq), want) {
		t.Error("a later turn is seen")
	}
	seq = tree.Walk(n)
	want = steps(n, 1)
	var l []step
	for d, k := range seq {
		l = append(l, step{d, k})
		clear(k.Kids)
		k.Kids = nil
	}
	if !slices.Equal(l, want) {
		t.Error("a turn on the way is seen")
	}
}

func TestP402Same(t *testing.T) {
	for _, c := range []struct {
		a, b string
		want bool
	}{
		{"<a/>", "<a></a>", true},
		{"<a/>", "<b/>", false},
		{"<a/>", "<a xmlns='u'/>", false},
		{"<p:a xmlns:p='u'/>", "<a xmlns='u'/>", true},
		{"<a xmlns:p='u'/>", " <a/>", true},
		{"<a>x&lt;</a>", "<a>x<![CDATA[<]]></a>", true},
		{"<a>x</a>", "<a>y</a>", false},
		{"<a>x</a>", "<a/>", false},
		{"<a>x</a>", "<a>x </a>", false},
		{"<a x='1' y='2'/>", "<a  y='2' x='1'/>", true},
		{"<a x='1' y='2'/>", "<a x='2' y='1'/>", false},
		{"<a x='1'/>", "<a/>", false},
		{"<a x=''/>", "<a y=''/>", false},
		{"<a x=''/>", "<a x='' y=''/>", false},
		{"<a xmlns:p='u' p:x=''/>", "<a xmlns:p='v' p:x=''/>", false},
		{"<a xmlns:p='u' p:x=''/>", "<a xmlns:q='u' q:x=''/>", true},
		{"<a xmlns:p='u' p:x='1' x='2'/>", "<a xmlns:p='u' p:x='2' x='1'/>", false},
		{"<a xmlns:p='u' p:x='1' x='2'/>", "<a xmlns:p='u' x='2' p:x='1'/>", true},
		{"<a><b/><c/></a>", "<a><c/><b/></a>", false},
		{"<a><b/><c/></a>", "<a><b><c/></b></a>", false},
		{"<a><b/><b/></a>", "<a><b/></a>", false},
		{"<a><b/>x</a>", "<a>x<b/></a>", false},
		{"<a><b>x</b></a>", "<a><b/>x</a>", false},
		{"<a><b><c y='1'/></b></a>", "<a><b><c y='2'/></b></a>", false},
		{"<a><b><c/></b><b><c/></b></a>", "<a>\n<b/></a>", false},
	} {
		a, b := parsed(t, c.a), parsed(t, c.b)
		if tree.Same(a, b) != c.want || tree.Same(b, a) != c.want || !tree.Same(a, a) || !tree.Same(a, parsed(t, c.a)) {
			t.Errorf("%q, %q: %v", c.a, c.b, tree.Same(a, b))
		}
	}
	if !tree.Same(text("x"), text("x")) || tree.Same(text("x"), text("y")) || tree.Same(text("x"), elem("", "x")) {
		t.Error("of texts")
	}
	once, twice := with(elem("", "a"), "", "x", "1"), with(elem("", "a"), "", "x", "1", "", "x", "1")
	both, turned := with(elem("", "a"), "", "x", "1", "", "x", "2"), with(elem("", "a"), "", "x", "2", "", "x", "1")
	if !tree.Same(once, twice) || tree.Same(once, both) || !tree.Same(both, turned) {
		t.Error("attributes are sets")
	}
}

// copied answers a tree of new nodes that is the same; At, End, Binds and the
// order of attributes are not.
func copied(n *tree.Node) *tree.Node {
	m := &tree.Node{Name: n.Name, Text: n.Text, At: n.At + 1, End: n.End + 2, Binds: []ns.Bind{{Prefix: "o", Space: "o"}}}
	for i, a := range slices.Backward(n.Attrs) {
		m.Attrs = append(m.Attrs, ns.Attr{Name: a.Name, Value: a.Value, At: i})
	}
	for _, k := range n.Kids {
		m.Kids = append(m.Kids, copied(k))
	}
	return m
}

// turns answers all trees that one small turn at n makes, each by a function
// that makes it, and takes it back.
func turns(n *tree.Node) []func() {
	was := *n
	change := func(turn func()) []func() {
		return []func(){turn, func() { *n = was }}
	}
	l := slices.Concat(
		change(func() { n.Name.Space += "x" }),
		change(func() { n.Name.Local += "x" }),
		change(func() { n.Text += "x" }),
		change(func() { n.Attrs = append(slices.Clip(n.Attrs), ns.Attr{Name: name("", "new")}) }),
		change(func() { n.Kids = append(slices.Clip(n.Kids), text("x")) }),
		change(func() { n.Kids = slices.Insert(slices.Clone(n.Kids), 0, elem("", "x")) }),
	)
	for i := range n.Kids {
		l = append(l, change(func() { n.Kids = slices.Delete(slices.Clone(n.Kids), i, i+1) })...)
	}
	for i := range n.Attrs {
		attr := func(turn func(a *ns.Attr)) {
			l = append(l, change(func() {
				n.Attrs = slices.Clone(n.Attrs)
				turn(&n.Attrs[i])
			})...)
		}
		attr(func(a *ns.Attr) { a.Name.Space += "x" })
		attr(func(a *ns.Attr) { a.Name.Local += "x" })
		attr(func(a *ns.Attr) { a.Value += "x" })
		l = append(l, change(func() { n.Attrs = slices.Delete(slices.Clone(n.Attrs), i, i+1) })...)
	}
	return l
}

func TestP402SameByTurns(t *testing.T) {
	d := dice(2)
	for range 200 {
		n := d.right(3)
		m := copied(n)
		if !tree.Same(n, m) || !tree.Same(m, n) {
			t.Fatal(tell(n))
		}
		for _, s := range collect(tree.Walk(m)) {
			for i, turn := range turns(s.node) {
				turn()
				back := i%2 == 1
				if tree.Same(n, m) != back || tree.Same(m, n) != back {
					t.Fatalf("%s\n%s", tell(n), tell(m))
				}
			}
		}
	}
}

// TestP1NoTrees: circles and nil kids are nothing to stop at or to fall over.
func TestP1NoTrees(t *testing.T) {
	self := elem("", "a")
	self.Kids = []*tree.Node{text("t"), self}
	back := elem("", "a", elem("", "b", elem("", "c")))
	back.Kids[0].Kids[0].Kids = []*tree.Node{text("t"), back.Kids[0]}
	crowd := make([]*tree.Node, 40)
	for i := range crowd {
		crowd[i] = elem("", "a")
		crowd[i].Kids = crowd
	}
	wide := elem("", "a")
	for range 100000 {
		wide.Kids = append(wide.Kids, text("t"), elem("", "b"))
	}
	wide.Kids = append(wide.Kids, wide)
	inText := text("t")
	inText.Kids = []*tree.Node{inText}
	lost := elem("", "a", nil, text("t"), nil, elem("", "b", nil), nil)
	for i, n := range []*tree.Node{self, back, crowd[7], wide, inText, elem("", "r", inText), lost} {
		for _, k := range tree.Walk(n) {
			if k == nil {
				t.Errorf("%d: nil", i)
			}
		}
		tree.Size(n)
		tree.Depth(n)
		n.Str()
		n.Elems()
		n.Attr(name("", "x"))
		tree.Resolve(n, "x")
		tree.Same(n, n)
		if tree.Same(n, elem("", "a")) || tree.Same(text("t"), n) {
			t.Errorf("%d: Same", i)
		}
		if b, err := tree.Print(n); len(b) > 0 || err != api.ErrNot {
			t.Errorf("%d: %v", i, err)
		}
	}
	if lost.Str() != "t" || len(lost.Elems()) != 1 {
		t.Error("nil kids are neither texts nor elements")
	}
}

// TestP1Deep: no tree is too deep, though a stack of calls would be.
func TestP1Deep(t *testing.T) {
	defer debug.SetMaxStack(debug.SetMaxStack(8 << 20))
	const depth = 300000
	n := elem("", "a")
	for range depth - 1 {
		n = elem("", "a", n)
	}
	if tree.Size(n) != depth || tree.Depth(n) != depth {
		t.Errorf("%d, %d", tree.Size(n), tree.Depth(n))
	}
	if !tree.Same(n, n) || tree.Same(n, n.Kids[0]) {
		t.Error("Same")
	}
	if b, err := tree.Print(n); len(b) > 0 || err != api.ErrNot {
		t.Errorf("%v", err)
	}
}

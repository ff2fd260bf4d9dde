package tree_test

import (
	"strconv"
	"strings"
	"testing"

	"rubric/api"
	"rubric/tree"
)

// attrs answers an element with n attributes of that space.
func attrs(of *tree.Node, space string, n int) *tree.Node {
	for i := range n {
		with(of, space, "x"+strconv.Itoa(i), "")
	}
	return of
}

// nested answers n elements within one another.
func nested(n int) *tree.Node {
	in := elem("", "a")
	for range n - 1 {
		in = elem("", "a", in)
	}
	return in
}

// flat answers n elements: a root, and the others in it.
func flat(n int, kid *tree.Node) *tree.Node {
	r := elem("", "a")
	for range n - 1 {
		r.Kids = append(r.Kids, kid)
	}
	return r
}

// crowded answers n elements in a root, with a text wherever one can stand.
func crowded(n int) *tree.Node {
	r := elem("", "a", text("x"))
	for range n {
		r.Kids = append(r.Kids, elem("", "b", text("x")), text("x"))
	}
	return r
}

// texts answers an element with texts of 4000 letters, and one of some more.
func texts(s string, n, more int) *tree.Node {
	r := elem("", "a")
	for range n {
		r.Kids = append(r.Kids, text(strings.Repeat(s, 4000)), elem("", "b"))
	}
	r.Kids = append(r.Kids, text(strings.Repeat(s, more)))
	return r
}

func TestP403AtTheBounds(t *testing.T) {
	long := func(n int) string { return strings.Repeat("x", n) }
	for i, n := range []*tree.Node{
		nested(64),
		flat(4096, elem("", "b")),
		crowded(4095),
		flat(2, attrs(elem("", "a"), "", 64)),
		attrs(elem("u", "a"), "", 63),
		attrs(elem("", "a"), "u", 63),
		attrs(elem("u", "a"), "u", 62),
		attrs(elem(api.XML, "a"), api.XML, 64),
		elem("", "a", attrs(elem("u", "b"), "v", 64)),
		elem("", "a", text(long(4096))),
		with(elem("", "a"), "", "x", long(4096)),
		elem("", long(4096)),
		elem("u", long(4096), elem("", long(4096), elem("u", "a"), elem("", "a"))),
		elem("", "a", elem("u", long(4096), elem("", "b"), elem("u", "b")), elem("u", "b"), elem("u", long(4095)), elem("u", long(4094))),
		elem(api.XML, long(4092)),
		elem(long(4096), "a"),
		with(elem("", "a"), long(4096), "x", ""),
		with(elem("", "a"), "", long(4096), ""),
		with(elem("", "a"), "u", long(4094), ""),
		with(elem("", "a"), api.XML, long(4092), ""),
		texts("x", 16, 65536-16*4004-7),
	} {
		b, err := tree.Print(n)
		if err != api.OK {
			t.Errorf("%d: %v", i, err)
			continue
		}
		if m, at, err := tree.Parse(b, api.Limits{}); err != api.OK || form(m) != form(n) {
			t.Errorf("%d: %d, %v", i, at, err)
		}
	}
}

func TestP403BeyondTheBounds(t *testing.T) {
	long := func(n int) string { return strings.Repeat("x", n) }
	for i, n := range []*tree.Node{
		nested(65),
		nested(5000),
		flat(4097, elem("", "b")),
		flat(100000, elem("", "b")),
		crowded(4096),
		attrs(elem("", "a"), "", 65),
		flat(2, attrs(elem("", "a"), "", 65)),
		attrs(elem("u", "a"), "", 64),
		attrs(elem("", "a"), "u", 64),
		attrs(elem("u", "a"), "u", 63),
		elem("", "a", text(long(4097))),
		with(elem("", "a"), "", "x", long(4097)),
		elem("", long(4097)),
		elem(api.XML, long(4093)),
		elem(long(4097), "a"),
		with(elem("", "a"), long(4097), "x", ""),
		with(elem("", "a"), "", long(4097), ""),
		with(elem("", "a"), "u", long(4095), ""),
		with(elem("", "a"), api.XML, long(4093), ""),
		texts("x", 16, 65536-16*4004-6),
		texts("<", 16, 1),
	} {
		if b, err := tree.Print(n); len(b) > 0 || err != api.ErrNot {
			t.Errorf("%d: %.60q, %v", i, b, err)
		}
	}
}

// TestP1PrintEnds: a tree of few nodes, and long ones, may have more places
// than could be gone over.
func TestP1PrintEnds(t *testing.T) {
	n := elem("", "a")
	for range 64 {
		n = elem("", "a", n, n)
	}
	checkNotPlain(t, n)
	n = text("")
	for range 40 {
		n = elem("", "a", n, n)
	}
	checkNotPlain(t, n)
	checkNotPlain(t, flat(4000, attrs(elem("", "b"), "", 20000)))
	big := strings.Repeat("x", 1<<20)
	checkNotPlain(t, flat(12000, text(big)))
	checkNotPlain(t, flat(4000, elem(big, big)))
	all := elem(big, big)
	for i := range 64 {
		with(all, big+strconv.Itoa(i), big, big)
	}
	checkNotPlain(t, flat(4000, all))
	dear := strings.Repeat("\"", api.MaxToken)
	all = elem(dear, "a")
	for i := range 64 {
		with(all, dear[1:]+string(rune('0'+i)), "x", dear)
	}
	checkNotPlain(t, flat(12000, all))
}

func checkNotPlain(t *testing.T, n *tree.Node) {
	t.Helper()
	if b, err := tree.Print(n); len(b) > 0 || err != api.ErrNot {
		t.Errorf("%.60q, %v", b, err)
	}
}

// bytesOf answers how many bytes all of a tree's texts have.
func bytesOf(n *tree.Node) int {
	sum := 0
	for _, k := range tree.Walk(n) {
		sum += len(k.Name.Space) + len(k.Name.Local) + len(k.Text)
		for _, a := range k.Attrs {
			sum += len(a.Name.Space) + len(a.Name.Local) + len(a.Value)
		}
	}
	return sum
}

// checkSmall prints a tree that is small enough never to be too much.
func checkSmall(t *testing.T, n *tree.Node) {
	t.Helper()
	if s := bytesOf(n); tree.Size(n) > 500 || tree.Depth(n) > 20 || s > 6000 {
		t.Fatalf("the test is wrong: %d, %d, %d", tree.Size(n), tree.Depth(n), s)
	}
	for _, k := range tree.Walk(n) {
		if len(k.Attrs) > 16 {
			t.Fatalf("the test is wrong: %d", len(k.Attrs))
		}
	}
	checkPrint(t, n)
}

// TestP403SmallIsNeverTooMuch: trees of the size that the chapter names, with
// spaces that are as dear as can be.
func TestP403SmallIsNeverTooMuch(t *testing.T) {
	dear := []string{"\"", "&", "\t", "\n", "\r", "<", ">"}
	few := func(r *tree.Node, left int) *tree.Node {
		for i := len(r.Kids); i < 499; i++ {
			k := elem("", "a")
			n := 5
			if (499-i)*11+2 <= left {
				n = 6
			}
			for _, s := range dear[:n] {
				with(k, s, "x", "")
			}
			left -= 1 + 2*n
			r.Kids = append(r.Kids, k)
		}
		return r
	}
	r := few(elem("u", "a"), 5998)
	if bytesOf(r) < 5990 {
		t.Errorf("the test is wrong: %d", bytesOf(r))
	}
	checkSmall(t, r)

	// The same behind many spaces that are there but once.
	r = elem("u", "a")
	for i := range 5 {
		k := elem("", "a")
		for j := range 16 {
			with(k, string(rune(0x100+16*i+j)), "x", "")
		}
		r.Kids = append(r.Kids, k)
	}
	checkSmall(t, few(r, 5998-5*49))

	// More spaces than an element can bind, all over.
	r = elem("\u00e9", "a")
	n := 0
	for range 499 {
		k := elem("", "a")
		for range 5 {
			with(k, string(rune(' '+n%95)), "x", "")
			n++
		}
		r.Kids = append(r.Kids, k)
	}
	checkSmall(t, r)

	// Elements of spaces that alternate, below one another and side by side.
	r = elem("", "a")
	for i := range 470 {
		r.Kids = append(r.Kids, elem(string(rune(0x100+i%200))+"\"", "a"))
	}
	for i := range 18 {
		r = elem(dear[i%7]+dear[i%5], "a", r)
	}
	checkSmall(t, r)
}

// TestP403TightNames: a name that leaves room for a prefix of one letter has
// one, however many spaces there are.
func TestP403TightNames(t *testing.T) {
	r := elem("", "a")
	for i := range 200 {
		space := string(rune(0x100 + i%100))
		r.Kids = append(r.Kids, with(elem("", "b"), space, "x", "", space, "y", ""))
	}
	r.Kids = append(r.Kids, with(elem("", "c"), "u", strings.Repeat("x", 4094), ""))
	checkSmall(t, r)
	r.Kids[200] = with(elem("", "c"), "u", strings.Repeat("x", 4095), "")
	checkNot(t, r)
}

// TestP403ManySpaces: more than there are prefixes of one letter, or of two.
func TestP403ManySpaces(t *testing.T) {
	r := elem("", "a")
	for i := range 4095 {
		r.Kids = append(r.Kids, elem(string(rune(0x100+i)), "b"))
	}
	checkPrint(t, r)
	r.Kids = r.Kids[:3500]
	for i := range 200 {
		r.Kids = append(r.Kids, with(elem("", "b"), string(rune(0x5000+i)), "c", ""))
	}
	checkPrint(t, r)
	r.Kids = append(r.Kids[:2800], with(elem("", "b"), "u", strings.Repeat("x", 4093), ""))
	checkPrint(t, r)
	r.Kids = nil
	for i := range 2300 {
		r.Kids = append(r.Kids, with(elem("", "b"), string(rune(0x100+i)), "c", ""))
	}
	checkPrint(t, r)
}

// TestP403SmallByDice: whatever is thrown within the size that the chapter names.
func TestP403SmallByDice(t *testing.T) {
	d := dice(6)
	for range 300 {
		spaces, locals := 1+d.throw(150), 1+d.throw(20)
		space := func() string {
			return d.one("", "\"", "&", "\n", string(rune(' '+d.throw(spaces))))
		}
		root := elem(space(), "a")
		open := []*tree.Node{root}
		left, nodes := 6000-bytesOf(root), 1
		for left > 10 {
			n := open[len(open)-1]
			switch d.throw(4) {
			case 0:
				if nodes < 498 && len(open) < 20 {
					k := elem(space(), "b")
					n.Kids = append(n.Kids, k)
					open = append(open, k)
					left -= bytesOf(k)
					nodes++
				}
			case 1:
				if len(open) > 1 {
					open = open[:len(open)-1]
				}
			case 2:
				if nodes < 498 && (len(n.Kids) == 0 || n.Kids[len(n.Kids)-1].Elem()) {
					n.Kids = append(n.Kids, text(d.one("<", "\r", "&", "x")))
					left--
					nodes++
				}
			case 3:
				a := name(space(), string(rune('a'+d.throw(locals))))
				if _, is := n.Attr(a); len(n.Attrs) < 16 && !is {
					value := d.one("", "\"", "\"\"\"")
					with(n, a.Space, a.Local, value)
					left -= len(a.Space) + len(a.Local) + len(value)
				}
			}
			if nodes >= 498 && len(open) == 1 {
				break
			}
		}
		checkSmall(t, root)
	}
}

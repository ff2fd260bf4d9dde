package simple_test

import (
	"math"
	"slices"
	"strings"
	"testing"

	"rubric/api"
	"rubric/facet"
	"rubric/kind"
	"rubric/simple"
)

// builtin is the type of a kind that there is.
func builtin(t *testing.T, k int) *simple.Type {
	t.Helper()
	x, err := simple.Builtin(k)
	if x == nil || err != api.OK {
		t.Fatalf("Builtin(%d): %v", k, err)
	}
	return x
}

// listOf is a list that must be taken.
func listOf(t *testing.T, item *simple.Type) *simple.Type {
	t.Helper()
	x, err := simple.NewList(item)
	if x == nil || err != api.OK {
		t.Fatalf("NewList: %v", err)
	}
	return x
}

// unionOf is a union that must be taken.
func unionOf(t *testing.T, members ...*simple.Type) *simple.Type {
	t.Helper()
	x, err := simple.NewUnion(members...)
	if x == nil || err != api.OK {
		t.Fatalf("NewUnion: %v", err)
	}
	return x
}

// row is a list of facets: each a name, a colon and its text; `?` is no facet.
func row(l ...string) []facet.Facet {
	var out []facet.Facet
	for _, s := range l {
		name, text, _ := strings.Cut(s, ":")
		n, is := facet.Find(name)
		if !is && name != "?" {
			panic(s)
		}
		out = append(out, facet.Facet{Kind: n, Text: text})
	}
	return out
}

// restricted is a restriction that must be taken.
func restricted(t *testing.T, base *simple.Type, l ...string) *simple.Type {
	t.Helper()
	x, at, err := simple.Restrict(base, row(l...))
	if x == nil || at != 0 || err != api.OK {
		t.Fatalf("Restrict(%q): %d, %v", l, at, err)
	}
	return x
}

// noKinds are numbers of no kind.
var noKinds = []int{0, -1, 33, 34, 64, 256, 257, 1 << 32, 1<<32 + 1, math.MinInt, math.MinInt + 1, math.MaxInt}

func TestP1301Builtins(t *testing.T) {
	all := map[*simple.Type]int{simple.AnyType(): 1}
	for k := 1; k <= kind.Duration; k++ {
		x := builtin(t, k)
		all[x]++
		base := simple.AnyType()
		if kind.Base(k) != 0 {
			base = builtin(t, kind.Base(k))
		}
		if x != builtin(t, k) || x.Base() != base || x.Variety() != simple.Atomic || x.Kind() != k || x.Item() != nil || len(x.Members()) != 0 || x.White() != kind.White(k) {
			t.Errorf("%s: %d, %d, %d", kind.Name(k), x.Variety(), x.Kind(), x.White())
		}
	}
	if len(all) != 33 {
		t.Errorf("%d types", len(all))
	}
	for _, k := range noKinds {
		if x, err := simple.Builtin(k); x != nil || err != api.ErrArg {
			t.Errorf("Builtin(%d): %v", k, err)
		}
	}
}

func TestP1301Numbers(t *testing.T) {
	if got := []int{simple.Atomic, simple.List, simple.Union, simple.Any}; !slices.Equal(got, []int{1, 2, 3, 4}) {
		t.Errorf("%v", got)
	}
}

func TestP1301AnyType(t *testing.T) {
	x := simple.AnyType()
	if x == nil || x != simple.AnyType() || x.Variety() != simple.Any || x.Kind() != 0 || x.Base() != nil || x.Item() != nil || len(x.Members()) != 0 || x.White() != 1 {
		t.Errorf("%d, %d, %d", x.Variety(), x.Kind(), x.White())
	}
}

func TestP1301NewList(t *testing.T) {
	num := builtin(t, kind.Int)
	few := restricted(t, num, "maxInclusive:5")
	plain := unionOf(t, num, few)
	nested := unionOf(t, unionOf(t, plain, num), few)
	narrow := restricted(t, nested, "pattern:1")
	for i, item := range []*simple.Type{num, few, plain, nested, narrow} {
		x := listOf(t, item)
		if x.Item() != item || x.Variety() != simple.List || x.Kind() != 0 || x.Base() != simple.AnyType() || len(x.Members()) != 0 || x.White() != 3 {
			t.Errorf("%d: %d, %d, %d", i, x.Variety(), x.Kind(), x.White())
		}
	}
	lists := listOf(t, num)
	short := restricted(t, lists, "length:1")
	with := unionOf(t, num, lists)
	deep := unionOf(t, num, unionOf(t, unionOf(t, few, short), plain))
	for i, item := range []*simple.Type{simple.AnyType(), lists, short, with, deep, restricted(t, with), restricted(t, deep, "pattern:1"), unionOf(t, restricted(t, with)), listOf(t, plain), unionOf(t, listOf(t, plain))} {
		if x, err := simple.NewList(item); x != nil || err != api.ErrNot {
			t.Errorf("%d: %v", i, err)
		}
	}
	if x, err := simple.NewList(nil); x != nil || err != api.ErrArg {
		t.Errorf("nil: %v", err)
	}
}

func TestP1301NewUnion(t *testing.T) {
	num, str := builtin(t, kind.Int), builtin(t, kind.String)
	lists := listOf(t, num)
	inner := unionOf(t, num, lists)
	narrow := restricted(t, inner, "pattern:1")
	for i, members := range [][]*simple.Type{{num}, {num, num}, {lists, str, num}, {inner}, {narrow, inner, narrow}, slices.Repeat([]*simple.Type{str}, 32), slices.Repeat([]*simple.Type{inner, narrow}, 16)} {
		x := unionOf(t, members...)
		if !slices.Equal(x.Members(), members) || x.Variety() != simple.Union || x.Kind() != 0 || x.Base() != simple.AnyType() || x.Item() != nil || x.White() != 1 {
			t.Errorf("%d: %d, %d, %d", i, x.Variety(), x.Kind(), x.White())
		}
	}
}

// TestP1301UnionErrors: how many there are goes ahead of what they are; of members
// the first wrong one counts.
func TestP1301UnionErrors(t *testing.T) {
	num, all := builtin(t, kind.Int), simple.AnyType()
	many := slices.Repeat([]*simple.Type{num}, 33)
	most := sized(t, 256)
	for i, c := range []struct {
		members []*simple.Type
		err     api.Errno
	}{
		{nil, api.ErrArg}, {[]*simple.Type{}, api.ErrArg}, {many, api.ErrArg}, {many[:32], api.OK}, {slices.Repeat([]*simple.Type{all}, 33), api.ErrArg}, {slices.Repeat(many, 1000), api.ErrArg}, {slices.Repeat([]*simple.Type{most}, 33), api.ErrArg},
		{[]*simple.Type{nil}, api.ErrArg}, {[]*simple.Type{num, num, nil}, api.ErrArg}, {[]*simple.Type{nil, all}, api.ErrArg}, {append(slices.Clone(many[:31]), nil), api.ErrArg}, {[]*simple.Type{most, num, nil}, api.ErrArg},
		{[]*simple.Type{all}, api.ErrNot}, {[]*simple.Type{num, all, num}, api.ErrNot}, {[]*simple.Type{all, nil}, api.ErrNot}, {append(slices.Clone(many[:31]), all), api.ErrNot}, {[]*simple.Type{most, num, all}, api.ErrNot},
		{[]*simple.Type{most}, api.OK}, {[]*simple.Type{most, num}, api.ErrMany},
	} {
		x, err := simple.NewUnion(c.members...)
		if err != c.err || (x != nil) != (err == api.OK) {
			t.Errorf("%d: %v; want %v", i, err, c.err)
		}
	}
}

// sized is a Union of n members that are no Unions, most of them within others.
func sized(t *testing.T, n int) *simple.Type {
	t.Helper()
	num := builtin(t, kind.Int)
	var members []*simple.Type
	for ; n > 32 || n > 0 && len(members)+n > 32; n -= 9 {
		members = append(members, unionOf(t, slices.Repeat([]*simple.Type{num}, 9)...))
	}
	for range n {
		members = append(members, num)
	}
	return unionOf(t, members...)
}

// TestP1301UnionMany: each member counts as often as it comes, a List and what is
// restricted as one of what it is.
func TestP1301UnionMany(t *testing.T) {
	num := builtin(t, kind.Int)
	few := restricted(t, num, "maxInclusive:5")
	lists := listOf(t, sized(t, 256))
	eight := unionOf(t, slices.Repeat([]*simple.Type{num, few, lists, restricted(t, lists)}, 2)...)
	narrow := restricted(t, restricted(t, eight, "pattern:1"))
	eights := slices.Repeat([]*simple.Type{eight, narrow, unionOf(t, eight), unionOf(t, unionOf(t, narrow))}, 8)
	all := unionOf(t, eights...)
	for i, c := range []struct {
		members []*simple.Type
		err     api.Errno
	}{
		{[]*simple.Type{all}, api.OK}, {[]*simple.Type{restricted(t, all, "pattern:1")}, api.OK}, {[]*simple.Type{all, few}, api.ErrMany}, {[]*simple.Type{lists, all}, api.ErrMany}, {[]*simple.Type{all, all}, api.ErrMany}, {[]*simple.Type{num, restricted(t, all)}, api.ErrMany}, {[]*simple.Type{unionOf(t, all), unionOf(t, num)}, api.ErrMany},
		{slices.Repeat([]*simple.Type{lists}, 32), api.OK}, {append(slices.Clone(eights[:31]), num), api.OK}, {append(slices.Clone(eights[:31]), eight), api.OK}, {append(slices.Clone(eights[:31]), unionOf(t, eight, lists)), api.ErrMany}, {slices.Repeat([]*simple.Type{all}, 32), api.ErrMany},
		{[]*simple.Type{sized(t, 255), num}, api.OK}, {[]*simple.Type{sized(t, 255), num, lists}, api.ErrMany}, {[]*simple.Type{sized(t, 128), sized(t, 128)}, api.OK}, {[]*simple.Type{sized(t, 129), sized(t, 128)}, api.ErrMany},
	} {
		x, err := simple.NewUnion(c.members...)
		if err != c.err || (x != nil) != (err == api.OK) {
			t.Errorf("%d: %v; want %v", i, err, c.err)
		}
	}
}

// TestP1301Restricted: a restricted type is of its base's variety, and has what that
// has.
func TestP1301Restricted(t *testing.T) {
	num := builtin(t, kind.Int)
	plain := unionOf(t, num, builtin(t, kind.Boolean))
	for i, base := range []*simple.Type{num, builtin(t, kind.String), listOf(t, num), listOf(t, plain), plain} {
		for range 4 {
			x := restricted(t, base, "pattern:.*")
			if x == base || x.Base() != base || x.Variety() != base.Variety() || x.Kind() != base.Kind() || x.Item() != base.Item() || !slices.Equal(x.Members(), base.Members()) || x.White() != base.White() {
				t.Errorf("%d: %d, %d", i, x.Variety(), x.Kind())
			}
			base = x
		}
	}
}

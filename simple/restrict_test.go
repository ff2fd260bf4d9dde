package simple_test

import (
	"slices"
	"strings"
	"testing"

	"rubric/api"
	"rubric/facet"
	"rubric/kind"
	"rubric/simple"
)

// errorCase is what Restrict has to answer.
type errorCase struct {
	l   []string
	at  int
	err api.Errno
}

func checkErrors(t *testing.T, base *simple.Type, all []errorCase) {
	t.Helper()
	for _, c := range all {
		x, at, err := simple.Restrict(base, row(c.l...))
		if err != c.err || at != c.at || (x != nil) != (err == api.OK) {
			t.Errorf("Restrict(%.200q): %v, %d, %v; want %d, %v", c.l, x != nil, at, err, c.at, c.err)
		}
	}
}

func TestP1301RestrictNothing(t *testing.T) {
	for _, l := range [][]string{nil, {}, {"pattern:("}, {"pattern:.*"}, {"?"}, {"length:1", "?:1"}} {
		checkErrors(t, nil, []errorCase{{l, 0, api.ErrArg}})
		checkErrors(t, simple.AnyType(), []errorCase{{l, 0, api.ErrNot}})
	}
}

// TestP1301RestrictErrArg: a facet that is none goes ahead of all others, at 0.
func TestP1301RestrictErrArg(t *testing.T) {
	num := builtin(t, kind.Int)
	plain := unionOf(t, num, builtin(t, kind.Boolean))
	for i, base := range []*simple.Type{num, builtin(t, kind.String), listOf(t, num), listOf(t, plain), plain, restricted(t, plain, "pattern:1"), restricted(t, listOf(t, plain), "length:1")} {
		for _, none := range []int{0, -1, 13, 14, 256, 257, 1<<32 + 1, -1 << 63, 1<<63 - 1} {
			for _, l := range [][]facet.Facet{nil, row("pattern:."), row("pattern:("), row("enumeration:x", "minInclusive:y"), row("length:1", "length:1")} {
				for at := range len(l) + 1 {
					wrong := slices.Insert(slices.Clone(l), at, facet.Facet{Kind: none, Text: "1"})
					if x, place, err := simple.Restrict(base, wrong); x != nil || place != 0 || err != api.ErrArg {
						t.Errorf("%d: %d, %v: %d, %v", i, none, l, place, err)
					}
				}
			}
		}
	}
}

func TestP1301RestrictAtomic(t *testing.T) {
	checkErrors(t, restricted(t, builtin(t, kind.Int), "minInclusive:3", "maxExclusive:100", "pattern:[1-9][0-9]*"), []errorCase{
		{nil, 0, api.OK}, {[]string{"minInclusive:3", "maxInclusive:99"}, 0, api.OK}, {[]string{"minExclusive: 3\n", "enumeration: 7 ", "totalDigits:1"}, 0, api.OK},
		// What facet.Compile refuses.
		{[]string{"length:1"}, 0, api.ErrNot}, {[]string{"minInclusive:5", "minInclusive:5"}, 1, api.ErrDup}, {[]string{"pattern:.", "minInclusive:5.0"}, 1, api.ErrForm}, {[]string{"pattern:\\p{Lt}"}, 0, api.ErrOdd}, {[]string{"pattern:a{513}"}, 0, api.ErrMany}, {[]string{"whiteSpace:replace"}, 0, api.ErrNot}, {[]string{"minInclusive:9", "maxInclusive:8", "pattern:."}, 2, api.ErrNot},
		// What base does not take: below, above, at its bound, not of its pattern.
		{[]string{"maxInclusive:99", "minInclusive:2"}, 1, api.ErrNot}, {[]string{"maxInclusive:100"}, 0, api.ErrNot}, {[]string{"maxExclusive:100"}, 0, api.ErrNot}, {[]string{"minExclusive:2"}, 0, api.ErrNot}, {[]string{"minInclusive:07"}, 0, api.ErrNot}, {[]string{"minInclusive:+7"}, 0, api.ErrNot}, {[]string{"enumeration:7", "enumeration:2", "enumeration:1"}, 1, api.ErrNot}, {[]string{"pattern:.", "enumeration:07"}, 1, api.ErrNot},
		// That goes behind all of facet.Compile's.
		{[]string{"maxInclusive:500", "minInclusive:x"}, 1, api.ErrForm}, {[]string{"enumeration:500", "pattern:("}, 1, api.ErrForm}, {[]string{"enumeration:500", "length:1"}, 1, api.ErrNot}, {[]string{"minInclusive:500", "minInclusive:500"}, 1, api.ErrDup}, {[]string{"minInclusive:1", "maxInclusive:0", "pattern:."}, 2, api.ErrNot}, {[]string{"enumeration:1", "fractionDigits:2", "totalDigits:1"}, 2, api.ErrNot}, {[]string{"pattern:.", "minInclusive:1", "maxInclusive:2"}, 1, api.ErrNot},
	})
	checkErrors(t, restricted(t, builtin(t, kind.Date), "minInclusive:2000-01-01"), []errorCase{
		{[]string{"minInclusive:2000-01-01"}, 0, api.OK}, {[]string{"maxInclusive:2000-01-01Z"}, 0, api.ErrNot}, {[]string{"enumeration:2000-01-03Z"}, 0, api.OK},
	})
	// The step's other facets ask nothing of its own texts; numbers are no values.
	checkErrors(t, builtin(t, kind.Int), []errorCase{{[]string{"pattern:[0-4]", "minInclusive:7", "totalDigits:1", "enumeration:100"}, 0, api.OK}})
	checkErrors(t, restricted(t, builtin(t, kind.String), "maxLength:2", "pattern:a*"), []errorCase{
		{[]string{"length:9", "pattern:bbb"}, 0, api.OK}, {[]string{"whiteSpace:collapse", "enumeration:aa"}, 0, api.OK}, {[]string{"enumeration:aaa"}, 0, api.ErrNot}, {[]string{"enumeration:b"}, 0, api.ErrNot}, {[]string{"length:3", "enumeration:b"}, 1, api.ErrNot},
	})
}

// TestP1301RestrictWhite: what puts a text ahead of a step is the base's own way.
func TestP1301RestrictWhite(t *testing.T) {
	ways := []string{"whiteSpace:preserve", "whiteSpace:replace", "whiteSpace:collapse"}
	str := builtin(t, kind.String)
	for i, first := range ways {
		one := restricted(t, str, first)
		for _, base := range []*simple.Type{one, restricted(t, restricted(t, one, "pattern:.*"))} {
			for j, second := range ways {
				err := api.OK
				if j < i {
					err = api.ErrNot
				}
				checkErrors(t, base, []errorCase{{[]string{second}, 0, err}})
			}
		}
	}
	// An enumeration's text is put by base: a pattern is asked of that.
	base := restricted(t, restricted(t, str, "whiteSpace:collapse"), "pattern:a|a b")
	checkErrors(t, base, []errorCase{{[]string{"enumeration: a ", "enumeration:a\n  b", "enumeration:ab"}, 2, api.ErrNot}})
}

func TestP1301RestrictList(t *testing.T) {
	few := restricted(t, builtin(t, kind.Int), "maxInclusive:5")
	checkErrors(t, restricted(t, listOf(t, few), "maxLength:3"), []errorCase{
		{nil, 0, api.OK}, {[]string{"enumeration: 1  02 ", "enumeration:", "length:9", "pattern:.*", "whiteSpace:collapse"}, 0, api.OK},
		{[]string{"minInclusive:1"}, 0, api.ErrNot}, {[]string{"length:1", "totalDigits:1"}, 1, api.ErrNot}, {[]string{"whiteSpace:preserve"}, 0, api.ErrNot}, {[]string{"length:1", "length:1"}, 1, api.ErrDup}, {[]string{"enumeration:1 x"}, 0, api.ErrForm}, {[]string{"enumeration:1", "pattern:("}, 1, api.ErrForm}, {[]string{"length:1", "maxLength:2", "enumeration:1"}, 2, api.ErrNot},
		{[]string{"enumeration:1 6"}, 0, api.ErrNot}, {[]string{"enumeration:1 2 3", "enumeration:1 2 3 4", "enumeration:6"}, 1, api.ErrNot}, {[]string{"enumeration:6", "enumeration:x"}, 1, api.ErrForm}, {[]string{"enumeration:6", "pattern:\\p{Lt}"}, 1, api.ErrOdd}, {[]string{"enumeration:6", "minLength:2", "maxLength:1"}, 2, api.ErrNot},
	})
}

func TestP1301RestrictUnion(t *testing.T) {
	num, truth := builtin(t, kind.Int), builtin(t, kind.Boolean)
	plain := unionOf(t, restricted(t, num, "maxInclusive:5"), truth, listOf(t, num))
	base := restricted(t, plain, "pattern:[^7]*")
	names := []string{"length:1", "minLength:1", "maxLength:1", "whiteSpace:collapse", "whiteSpace:x", "maxInclusive:1", "maxExclusive:1", "minInclusive:1", "minExclusive:x", "totalDigits:1", "fractionDigits:1"}
	for _, name := range names {
		checkErrors(t, base, []errorCase{
			{[]string{name}, 0, api.ErrNot}, {[]string{"pattern:.", "enumeration:1", name}, 2, api.ErrNot}, {[]string{name, "pattern:("}, 0, api.ErrNot}, {[]string{"pattern:(", name}, 0, api.ErrForm}, {[]string{"enumeration:x", name}, 0, api.ErrForm}, {[]string{name, "enumeration:x"}, 0, api.ErrNot},
		})
	}
	checkErrors(t, base, []errorCase{
		{nil, 0, api.OK}, {[]string{"pattern:.", "enumeration: 1", "pattern:.", "enumeration: 1", "enumeration:8 9", "enumeration:", "enumeration:true"}, 0, api.OK},
		{[]string{"pattern:1", "pattern:("}, 1, api.ErrForm}, {[]string{"pattern:\\p{Lt}", "pattern:("}, 0, api.ErrOdd}, {[]string{"pattern:1", "enumeration:1", "pattern:a{513}"}, 2, api.ErrMany}, {[]string{"pattern:a{512}"}, 0, api.OK}, {[]string{"pattern:" + strings.Repeat("(", 41) + strings.Repeat(")", 41)}, 0, api.ErrMany},
		{[]string{"enumeration:x"}, 0, api.ErrForm}, {[]string{"enumeration:1", "enumeration:1 true"}, 1, api.ErrForm}, {[]string{"enumeration:7"}, 0, api.ErrForm}, {[]string{"pattern:.", "enumeration:27", "pattern:("}, 1, api.ErrForm}, {[]string{"enumeration:9"}, 0, api.OK},
	})
	// The step's own patterns ask nothing of its enumerations.
	checkErrors(t, base, []errorCase{{[]string{"pattern:x", "enumeration:true"}, 0, api.OK}})
}

// TestP1301RestrictListOfUnion: enumerations go ahead of all others; those have their
// places among themselves.
func TestP1301RestrictListOfUnion(t *testing.T) {
	few := restricted(t, builtin(t, kind.Int), "maxInclusive:5")
	plain := unionOf(t, few, builtin(t, kind.Boolean))
	for _, item := range []*simple.Type{plain, restricted(t, plain, "pattern:.*"), unionOf(t, plain)} {
		checkErrors(t, restricted(t, listOf(t, item), "maxLength:3"), []errorCase{
			{nil, 0, api.OK}, {[]string{"enumeration:1 true", "enumeration:", "minLength:1", "pattern:1.*", "pattern:x", "whiteSpace:collapse", "enumeration:1"}, 0, api.OK},
			{[]string{"enumeration:1 x"}, 0, api.ErrForm}, {[]string{"length:1", "enumeration:1 6", "enumeration:x"}, 1, api.ErrForm}, {[]string{"enumeration:1", "enumeration:1 1 1 1"}, 1, api.ErrForm},
			{[]string{"length:1", "length:1", "pattern:(", "enumeration:x"}, 3, api.ErrForm}, {[]string{"minInclusive:1", "enumeration:7"}, 1, api.ErrForm},
			{[]string{"minInclusive:1"}, 0, api.ErrNot}, {[]string{"enumeration:1", "minInclusive:1"}, 0, api.ErrNot}, {[]string{"enumeration:1", "length:1", "enumeration:1", "totalDigits:1"}, 1, api.ErrNot}, {[]string{"length:1", "enumeration:1", "length:1"}, 1, api.ErrDup}, {[]string{"enumeration:1", "enumeration:2", "pattern:("}, 0, api.ErrForm}, {[]string{"enumeration:1", "pattern:\\p{Lt}"}, 0, api.ErrOdd}, {[]string{"enumeration:1", "pattern:.", "pattern:a{513}"}, 1, api.ErrMany}, {[]string{"whiteSpace:replace"}, 0, api.ErrNot}, {[]string{"enumeration:1", "whiteSpace:x"}, 0, api.ErrForm}, {[]string{"length:x"}, 0, api.ErrForm},
			{[]string{"length:1", "enumeration:1", "minLength:1"}, 1, api.ErrNot}, {[]string{"minLength:2", "maxLength:1", "enumeration:1", "pattern:.", "enumeration:2"}, 2, api.ErrNot},
		})
	}
}

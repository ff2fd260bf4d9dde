package simple_test

import (
	"strings"
	"testing"

	"rubric/api"
	"rubric/kind"
	"rubric/simple"
)

// result is what a text tells that must be taken.
func result(t *testing.T, x *simple.Type, s string) simple.Result {
	t.Helper()
	r, err := x.Parse(s)
	if err != api.OK {
		t.Fatalf("Parse(%q): %v", s, err)
	}
	return r
}

// TestP1303Same: each two of some results, those of one group being the same.
func TestP1303Same(t *testing.T) {
	num, dec, str, day, truth := builtin(t, kind.Int), builtin(t, kind.Decimal), builtin(t, kind.String), builtin(t, kind.Date), builtin(t, kind.Boolean)
	nums, days, all := listOf(t, num), listOf(t, day), simple.AnyType()
	groups := [][]simple.Result{
		{result(t, num, "1"), result(t, dec, "1.0"), result(t, nums, "+1"), result(t, unionOf(t, truth, dec), "1.00")},
		{result(t, all, "1")}, {result(t, str, "1"), result(t, builtin(t, kind.NMToken), " 1 ")}, {result(t, truth, "1"), result(t, truth, "true")}, {result(t, unionOf(t, truth, dec), "0")}, {result(t, num, "0"), result(t, dec, "-0.0")},
		{result(t, all, ""), result(t, nums, " "), result(t, days, ""), {}}, {result(t, str, "")}, {result(t, all, " "), {Kind: 7, White: 3, Text: " ", Values: []kind.Value{}}}, {result(t, all, "a")},
		{result(t, nums, "1 2"), result(t, listOf(t, dec), "1.0 2.0")}, {result(t, nums, "2 1")}, {result(t, nums, "1 2 1")}, {result(t, nums, "1 1")}, {result(t, str, "1 2")},
		{result(t, day, "2000-01-01Z"), result(t, day, "2000-01-01+00:00"), result(t, days, "2000-01-01Z")}, {result(t, day, "2000-01-01")}, {result(t, builtin(t, kind.DateTime), "2000-01-01T00:00:00Z"), result(t, builtin(t, kind.DateTime), "2000-01-01T01:00:00+01:00")},
		{result(t, builtin(t, kind.Duration), "P1Y"), result(t, builtin(t, kind.Duration), "P12M")}, {result(t, builtin(t, kind.Duration), "P365D")}, {result(t, days, "2000-01-01Z 2000-01-01")},
	}
	for i, g := range groups {
		for j, h := range groups {
			for _, a := range g {
				for _, b := range h {
					if simple.Same(a, b) != (i == j) {
						t.Errorf("Same(%+v, %+v): %v", a, b, i != j)
					}
				}
			}
		}
	}
}

func TestP1303Key(t *testing.T) {
	num, str, all := builtin(t, kind.Int), builtin(t, kind.String), simple.AnyType()
	tokens := unionOf(t, builtin(t, kind.Boolean), num, builtin(t, kind.Date), str)
	for _, c := range []struct {
		x    *simple.Type
		s    string
		want string
	}{
		{num, " +01", "decimal 1\n"}, {builtin(t, kind.Decimal), "-1.50", "decimal -1.5\n"}, {builtin(t, kind.UnsignedByte), "255", "decimal 255\n"}, {builtin(t, kind.Boolean), "1", "boolean true\n"}, {str, " a\n", "string  a\n\n"}, {str, "", "string \n"}, {builtin(t, kind.ID), " a ", "string a\n"},
		{builtin(t, kind.Date), "2001-02-03Z", "date date 2001 2 3 0 0 0\n"}, {builtin(t, kind.Time), "00:01:00.5", "time time 2000 1 1 60 500000000\n"}, {builtin(t, kind.Duration), "P1Y2D", "duration duration 12 172800 0\n"}, {builtin(t, kind.MonthDay), "--02-29", "gMonthDay gMonthDay 2000 2 29 0 0\n"},
		{listOf(t, num), "1  02", "decimal 1\ndecimal 2\n"}, {listOf(t, num), "1", "decimal 1\n"}, {listOf(t, tokens), "0 7 x", "boolean false\ndecimal 7\nstring x\n"}, {tokens, "2001-02-03", "date date 2001 2 3 0 0\n"},
		{listOf(t, num), " ", "text "}, {all, "", "text "}, {all, " a\n", "text  a\n"}, {all, "1", "text 1"},
	} {
		if got := simple.Key(result(t, c.x, c.s)); got != c.want {
			t.Errorf("Key(%q): %q; want %q", c.s, got, c.want)
		}
	}
	if simple.Key(simple.Result{}) != "text " || simple.Key(simple.Result{Kind: kind.Int, White: 3, Text: "\xff"}) != "text \xff" {
		t.Error("without values")
	}
}

// TestP1303SameKeys: but for moments and spans, what is the same by the same Prims
// has one Key, and what has one Key is the same.
func TestP1303SameKeys(t *testing.T) {
	var all []simple.Result
	texts := strings.Split("|a|1|+1|01|1.0|1.5|true|0|-0|a b|1 2|01 02|2000-01-01|2000-01-01Z|P1M", "|")
	for _, x := range []*simple.Type{simple.AnyType(), builtin(t, kind.String), builtin(t, kind.Token), builtin(t, kind.Boolean), builtin(t, kind.Decimal), builtin(t, kind.Int), builtin(t, kind.Date), listOf(t, builtin(t, kind.Int)), listOf(t, builtin(t, kind.NMToken))} {
		for _, s := range texts {
			if r, err := x.Parse(s); err == api.OK {
				all = append(all, r)
			}
		}
	}
	same := 0
	for _, a := range all {
		for _, b := range all {
			if simple.Same(a, b) != (simple.Key(a) == simple.Key(b)) {
				t.Errorf("%+v, %+v", a, b)
			}
			if simple.Same(a, b) {
				same++
			}
		}
	}
	if len(all) < 50 || same <= len(all) {
		t.Errorf("%d, %d", len(all), same)
	}
}

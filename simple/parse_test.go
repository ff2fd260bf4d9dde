package simple_test

import (
	"reflect"
	"strings"
	"testing"

	"rubric/api"
	"rubric/char"
	"rubric/kind"
	"rubric/simple"
)

// values are the values of texts that must be such.
func values(t *testing.T, k int, l ...string) []kind.Value {
	t.Helper()
	var out []kind.Value
	for _, s := range l {
		v, err := kind.Parse(k, s)
		if err != api.OK {
			t.Fatalf("Parse(%s, %.40q): %v", kind.Name(k), s, err)
		}
		out = append(out, v)
	}
	return out
}

// told is a result by its fields.
func told(k, white int, text string, v ...kind.Value) simple.Result {
	return simple.Result{Kind: k, White: white, Text: text, Values: v}
}

func checkParse(t *testing.T, x *simple.Type, s string, want simple.Result) {
	t.Helper()
	if r, err := x.Parse(s); err != api.OK || !reflect.DeepEqual(r, want) {
		t.Errorf("Parse(%.40q): %.300v, %v; want %.300v", s, r, err, want)
	}
}

// checkTakes asks which texts are taken; beside an error there is nothing.
func checkTakes(t *testing.T, x *simple.Type, yes, not []string) {
	t.Helper()
	for _, s := range yes {
		if _, err := x.Parse(s); err != api.OK {
			t.Errorf("Parse(%.40q): %v", s, err)
		}
	}
	for _, s := range not {
		if r, err := x.Parse(s); err != api.ErrForm || !reflect.DeepEqual(r, simple.Result{}) {
			t.Errorf("Parse(%.40q): %v, %v", s, r, err)
		}
	}
}

func TestP1302ParseAny(t *testing.T) {
	for _, s := range []string{"", " ", "\t a \n", "1", "\xff\x00", strings.Repeat(" x", 70000)} {
		checkParse(t, simple.AnyType(), s, told(0, char.Preserve, s))
	}
}

// TestP1302ParseBuiltin: each kind, texts of all sorts, by kind.Parse.
func TestP1302ParseBuiltin(t *testing.T) {
	texts := []string{"", " ", "a", " a\tb ", "a:b", "1", " +01 ", "1.50", "-129", "127", "256", "true", "0", "2000-01-01", "2000-01-01T24:00:00Z\n", "12:00:00", "2000-01", "2000", "--02-29", "---31", "--12", "P1M", "\xff", "18446744073709551616"}
	taken := 0
	for k := 1; k <= kind.Duration; k++ {
		for _, s := range texts {
			v, err := kind.Parse(k, s)
			if err != api.OK {
				checkTakes(t, builtin(t, k), nil, []string{s})
				continue
			}
			taken++
			checkParse(t, builtin(t, k), s, told(k, kind.White(k), char.Space(s, kind.White(k)), v))
		}
	}
	if taken < 100 {
		t.Errorf("only %d are taken", taken)
	}
}

// TestP1302White: the innermost step that has a way puts the text and its value.
func TestP1302White(t *testing.T) {
	str := builtin(t, kind.String)
	replaced := restricted(t, str, "whiteSpace:replace")
	kept := restricted(t, replaced, "minLength:1")
	collapsed := restricted(t, kept, "whiteSpace: collapse ")
	last := restricted(t, collapsed, "maxLength:3")
	for i, c := range []struct {
		x     *simple.Type
		white int
		text  string
	}{{str, char.Preserve, " a\n\tb"}, {replaced, char.Replace, " a  b"}, {kept, char.Replace, " a  b"}, {collapsed, char.Collapse, "a b"}, {last, char.Collapse, "a b"}} {
		if c.x.White() != c.white {
			t.Errorf("%d: %d", i, c.x.White())
		}
		checkParse(t, c.x, " a\n\tb", told(kind.String, c.white, c.text, values(t, kind.String, c.text)...))
	}
	// The base's steps, too, are asked of the text as it is put last.
	checkTakes(t, last, []string{"a", " a ", "a   b", "abc"}, []string{"", " ", "abcd", "a b c"})
	one := restricted(t, restricted(t, str, "pattern:a b", "length:3"), "whiteSpace:collapse")
	checkTakes(t, one, []string{"a b", " a\n b "}, []string{"a", "a b c"})
	checkTakes(t, restricted(t, str, "pattern:a b", "length:3"), []string{"a b"}, []string{" a\n b ", "a\nb"})
	for k := 1; k <= kind.Duration; k++ {
		if builtin(t, k).White() != kind.White(k) || restricted(t, builtin(t, k), "pattern:.*").White() != kind.White(k) {
			t.Errorf("%s", kind.Name(k))
		}
	}
}

func TestP1302Steps(t *testing.T) {
	num := builtin(t, kind.Int)
	low := restricted(t, num, "minInclusive:3")
	both := restricted(t, low, "maxInclusive:20")
	odd := restricted(t, both, "pattern:.*[13579]", "pattern:0.*")
	few := restricted(t, odd, "enumeration:5", "enumeration:7", "enumeration:019")
	checkTakes(t, low, []string{"3", " +3", "21", "100"}, []string{"2", "-3", "x", ""})
	checkTakes(t, both, []string{"3", "20"}, []string{"2", "21"})
	checkTakes(t, odd, []string{"3", "19", "04", "+11"}, []string{"4", "21", "1", "01"})
	checkTakes(t, few, []string{"5", "05", "19", "007"}, []string{"3", "9", "11", "x"})
	checkParse(t, few, "\t019 ", told(kind.Int, char.Collapse, "019", values(t, kind.Int, "19")...))
	// Each step stays as it is, whatever restricts it.
	checkTakes(t, low, []string{"21"}, []string{"2"})
	// Texts of an enumeration are as kind.Parse puts them.
	checkTakes(t, restricted(t, builtin(t, kind.String), "enumeration: a"), []string{" a"}, []string{"a", "a ", "  a"})
	checkTakes(t, restricted(t, builtin(t, kind.Token), "enumeration: a"), []string{" a", "a", "a "}, []string{"", "b"})
}

func TestP1302ParseList(t *testing.T) {
	num := builtin(t, kind.Int)
	for _, x := range []*simple.Type{listOf(t, num), restricted(t, listOf(t, num), "maxLength:3"), listOf(t, restricted(t, num, "maxInclusive:1000"))} {
		checkParse(t, x, "", told(0, char.Collapse, ""))
		checkParse(t, x, " \n", told(0, char.Collapse, ""))
		checkParse(t, x, "+01", told(0, char.Collapse, "+01", values(t, kind.Int, "1")...))
		checkParse(t, x, "\t1  02\r\n300 ", told(0, char.Collapse, "1 02 300", values(t, kind.Int, "1", "2", "300")...))
		checkTakes(t, x, nil, []string{"x", "1 x", "x 1", "1,2", "1.0", "\xff", "1\u00a02"})
	}
	three := restricted(t, restricted(t, listOf(t, restricted(t, num, "minInclusive:3")), "pattern:[0-9 ]*", "length:0", "whiteSpace:collapse"))
	checkTakes(t, three, []string{"", "  "}, []string{"3", "2"})
	some := restricted(t, restricted(t, listOf(t, num), "minLength:2"), "maxLength:3")
	checkTakes(t, some, []string{"1 2", " 1 2 3 "}, []string{"", "1", "123", "1 2 3 4"})
	pairs := restricted(t, some, "enumeration:1 2", "enumeration:3\n04 5")
	checkTakes(t, pairs, []string{"1 2", "01  2", "3 4 5"}, []string{"2 1", "1 2 3", "1", ""})
	checkTakes(t, listOf(t, restricted(t, builtin(t, kind.String), "length:2")), []string{"", "ab cd"}, []string{"abc", "ab c"})
}

// TestP1302ListOfUnion: each word is its first member's; steps are asked of all.
func TestP1302ListOfUnion(t *testing.T) {
	few := restricted(t, builtin(t, kind.Int), "maxInclusive:5")
	item := unionOf(t, few, unionOf(t, builtin(t, kind.Boolean), builtin(t, kind.Date)), builtin(t, kind.NMToken))
	x := listOf(t, item)
	all := []kind.Value{values(t, kind.Int, "1")[0], values(t, kind.Boolean, "true")[0], values(t, kind.NMToken, "6")[0], values(t, kind.Date, "2000-01-01")[0]}
	checkParse(t, x, " 01 true\n6 2000-01-01", told(0, char.Collapse, "01 true 6 2000-01-01", all...))
	checkParse(t, x, " ", told(0, char.Collapse, ""))
	checkTakes(t, x, []string{"a"}, []string{"a /", "/"})
	y := restricted(t, restricted(t, x, "maxLength:3", "pattern:[^a]*", "pattern:a.*"), "enumeration:1 true", "enumeration:", "enumeration:aa", "enumeration:6", "enumeration:a 2000-01-01Z", "minLength:0")
	checkTakes(t, y, []string{"+1 true", "", " ", "aa", "6", "a 2000-01-01-00:00"}, []string{"1 1", "1", "1 true 1", "06", "a", "a 2000-01-01", "true", "false", "1 false"})
	checkParse(t, y, "6", told(0, char.Collapse, "6", values(t, kind.NMToken, "6")...))
	z := restricted(t, x, "minLength:2", "enumeration:1")
	checkTakes(t, z, nil, []string{"1", "1 1"})
}

func TestP1302ParseUnion(t *testing.T) {
	num, str := builtin(t, kind.Int), builtin(t, kind.String)
	lists := listOf(t, num)
	x := unionOf(t, restricted(t, num, "maxInclusive:5"), builtin(t, kind.Boolean), lists, builtin(t, kind.Token), str)
	checkParse(t, x, " 1 ", told(kind.Int, char.Collapse, "1", values(t, kind.Int, "1")...))
	checkParse(t, x, " 0", told(kind.Int, char.Collapse, "0", values(t, kind.Int, "0")...))
	checkParse(t, x, "true\n", told(kind.Boolean, char.Collapse, "true", values(t, kind.Boolean, "1")...))
	checkParse(t, x, "6", told(0, char.Collapse, "6", values(t, kind.Int, "6")...))
	checkParse(t, x, "1  2", told(0, char.Collapse, "1 2", values(t, kind.Int, "1", "2")...))
	checkParse(t, x, "", told(0, char.Collapse, ""))
	checkParse(t, x, " a  b", told(kind.Token, char.Collapse, "a b", values(t, kind.Token, "a b")...))
	checkParse(t, unionOf(t, num, str), " 1 x\n", told(kind.String, char.Preserve, " 1 x\n", values(t, kind.String, " 1 x\n")...))
	checkParse(t, unionOf(t, str, num), " 1 ", told(kind.String, char.Preserve, " 1 ", values(t, kind.String, " 1 ")...))
	checkTakes(t, unionOf(t, num, builtin(t, kind.Date)), []string{"1", "2000-01-01"}, []string{"", "x", "1.5", "1 2"})
}

// TestP1302UnionSteps: the first member that takes a text is the one that is asked
// of; a step that does not hold of it refuses the text, whatever another would tell.
func TestP1302UnionSteps(t *testing.T) {
	num, truth, token := builtin(t, kind.Int), builtin(t, kind.Boolean), builtin(t, kind.Token)
	plain := unionOf(t, num, truth, token)
	checkTakes(t, restricted(t, plain, "enumeration:true", "enumeration:x"), []string{"true", " x "}, []string{"1", "0", "y", "false"})
	checkTakes(t, restricted(t, plain, "enumeration:01", "enumeration:1.0"), []string{"1", "001", "1.0"}, []string{"1.00", "true"})
	checkTakes(t, restricted(t, plain, "pattern:1", "pattern:t.*"), []string{"1", " 1 ", "true", "to"}, []string{"01", "11", "false"})
	checkTakes(t, restricted(t, restricted(t, plain, "pattern:1|2"), "pattern:2|3"), []string{"2"}, []string{"1", "3"})
	checkTakes(t, restricted(t, plain, "pattern:1|2", "enumeration:2", "enumeration:3"), []string{"2"}, []string{"1", "3", "02"})
	// A pattern is asked of the member's own text.
	strings := unionOf(t, num, builtin(t, kind.String))
	checkTakes(t, restricted(t, strings, "pattern:[0-9]| a "), []string{" 1 ", " a ", "1"}, []string{"a", " 12"})
	checkParse(t, restricted(t, restricted(t, strings, "pattern: .*"), "enumeration: x"), " x", told(kind.String, char.Preserve, " x", values(t, kind.String, " x")...))
	// Moments of one line are the same, whatever their fields are.
	times := unionOf(t, num, builtin(t, kind.DateTime))
	for _, x := range []*simple.Type{restricted(t, times, "enumeration:2000-01-01T00:00:00Z"), restricted(t, listOf(t, times), "enumeration:2000-01-01T00:00:00Z")} {
		checkTakes(t, x, []string{"2000-01-01T01:00:00+01:00", "1999-12-31T24:00:00-00:00"}, []string{"2000-01-01T00:00:00", "2000-01-01T00:00:01Z"})
	}
	// An enumeration is what the base tells of it: here of a number, and of a list.
	mixed := unionOf(t, listOf(t, num), truth)
	checkTakes(t, restricted(t, mixed, "enumeration:1", "enumeration:", "enumeration:true"), []string{"01", "", " ", "true"}, []string{"1 1", "0", "false"})
}

// TestP1302UnionsWithin: a restricted Union that is a member has its own steps, and
// its turn among the others.
func TestP1302UnionsWithin(t *testing.T) {
	num, truth, token := builtin(t, kind.Int), builtin(t, kind.Boolean), builtin(t, kind.Token)
	inner := restricted(t, unionOf(t, num, truth, token), "pattern:[0-4]*", "pattern:true")
	x := unionOf(t, inner, unionOf(t, truth, inner), token)
	for s, k := range map[string]int{"1": kind.Int, "4": kind.Int, "true": kind.Boolean, "false": kind.Boolean, "5": kind.Token, "0": kind.Int, "x": kind.Token, "": kind.Token} {
		r, err := x.Parse(s)
		if err != api.OK || r.Kind != k {
			t.Errorf("%q: %d, %v", s, r.Kind, err)
		}
	}
	// Steps of several Unions around one member.
	one := restricted(t, unionOf(t, num), "pattern:.*1")
	two := restricted(t, unionOf(t, one), "pattern:1.*")
	three := unionOf(t, two, one, restricted(t, unionOf(t, two, token), "pattern:..?"))
	for s, k := range map[string]int{"1": kind.Int, "121": kind.Int, "21": kind.Int, "12": kind.Token, "2": kind.Token, "x": kind.Token, "222": 0, "xyz": 0} {
		r, err := three.Parse(s)
		if r.Kind != k || (err == api.OK) != (k != 0) {
			t.Errorf("%q: %d, %v", s, r.Kind, err)
		}
	}
	// What an inner Union refuses goes on behind it, not within it.
	hidden := unionOf(t, restricted(t, unionOf(t, num, token), "pattern:x|1"), truth)
	checkTakes(t, hidden, []string{"x", "1", "0", "true"}, []string{"2", "y"})
	if r, _ := hidden.Parse("0"); r.Kind != kind.Boolean {
		t.Errorf("%d", r.Kind)
	}
}

func TestP1302Has(t *testing.T) {
	id, num, str := builtin(t, kind.ID), builtin(t, kind.Byte), builtin(t, kind.String)
	name := restricted(t, id, "length:1")
	with := unionOf(t, num, unionOf(t, str, restricted(t, name)))
	for i, c := range []struct {
		x    *simple.Type
		name string
	}{
		{id, "ID"}, {name, "ID"}, {listOf(t, name), "ID"}, {with, "byte ID string"}, {restricted(t, with, "pattern:1"), "byte ID string"}, {listOf(t, with), "byte ID string"}, {unionOf(t, listOf(t, with), num), "byte ID string"}, {unionOf(t, num, num), "byte"}, {simple.AnyType(), ""}, {restricted(t, listOf(t, num)), "byte"},
	} {
		for k := -1; k <= kind.Duration+1; k++ {
			want := false
			for _, own := range strings.Fields(c.name) {
				of, _ := kind.Find(own)
				want = want || kind.Derived(of, k)
			}
			if c.x.Has(k) != want {
				t.Errorf("%d: Has(%s): %v", i, kind.Name(k), !want)
			}
		}
		for _, k := range noKinds {
			if c.x.Has(k) {
				t.Errorf("%d: Has(%d)", i, k)
			}
		}
	}
	for k := 1; k <= kind.Duration; k++ {
		for from := 1; from <= kind.Duration; from++ {
			if builtin(t, k).Has(from) != kind.Derived(k, from) {
				t.Errorf("%s, %s", kind.Name(k), kind.Name(from))
			}
		}
	}
}

func TestP1302Derived(t *testing.T) {
	num, long, str := builtin(t, kind.Int), builtin(t, kind.Long), builtin(t, kind.String)
	few := restricted(t, restricted(t, num, "minInclusive:0"), "maxInclusive:5")
	lists := listOf(t, num)
	short := restricted(t, lists, "length:1")
	plain := unionOf(t, long, lists)
	narrow := restricted(t, plain, "pattern:1")
	outer := unionOf(t, narrow, unionOf(t, plain))
	blind := unionOf(t, narrow, str)
	types := map[string]*simple.Type{"any": simple.AnyType(), "int": num, "long": long, "string": str, "few": few, "list": lists, "short": short, "plain": plain, "narrow": narrow, "outer": outer, "blind": blind, "bound": restricted(t, outer), "twin": unionOf(t, long, lists), "many": listOf(t, num), "decimal": builtin(t, kind.Decimal), "byte": builtin(t, kind.Byte)}
	above := map[string]string{
		"any": "any", "decimal": "decimal any", "long": "long decimal any plain outer twin", "int": "int long decimal any plain outer twin", "byte": "byte int long decimal any plain outer twin", "few": "few int long decimal any plain outer twin", "string": "string any blind",
		"list": "list any plain outer twin", "short": "short list any plain outer twin", "many": "many any", "plain": "plain any outer", "narrow": "narrow plain any outer blind", "outer": "outer any", "blind": "blind any", "bound": "bound outer any", "twin": "twin any",
	}
	for a, x := range types {
		for b, y := range types {
			want := strings.Contains(" "+above[a]+" ", " "+b+" ")
			if simple.Derived(x, y) != want {
				t.Errorf("Derived(%s, %s): %v", a, b, !want)
			}
		}
	}
}

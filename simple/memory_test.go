package simple_test

import (
	"math"
	"reflect"
	"runtime/debug"
	"slices"
	"strings"
	"sync"
	"testing"

	"rubric/api"
	"rubric/date"
	"rubric/dec"
	"rubric/facet"
	"rubric/kind"
	"rubric/simple"
)

// spoil writes over a result's values, their digits, and all spare room.
func spoil(r simple.Result) {
	for _, v := range r.Values {
		d := v.Num.Digits[:cap(v.Num.Digits)]
		for i := range d {
			d[i] = 99
		}
	}
	v := r.Values[:cap(r.Values)]
	for i := range v {
		v[i] = kind.Value{Prim: 77}
	}
}

// TestP2ResultsAreNew: to write all over a result turns neither the type nor what it
// answers later.
func TestP2ResultsAreNew(t *testing.T) {
	num := builtin(t, kind.Int)
	plain := unionOf(t, num, builtin(t, kind.Boolean))
	for _, x := range []*simple.Type{
		num, restricted(t, num, "enumeration:12", "enumeration:7"), listOf(t, num), restricted(t, listOf(t, num), "enumeration:12", "enumeration:1"),
		plain, restricted(t, plain, "enumeration:12"), restricted(t, listOf(t, plain), "enumeration:12", "maxLength:1"),
	} {
		want := told(x.Kind(), 3, "12", values(t, kind.Int, "12")...)
		if x.Variety() == simple.Union {
			want.Kind = kind.Int
		}
		for range 3 {
			first, err := x.Parse(" 12")
			second, _ := x.Parse("12 ")
			if err != api.OK || !reflect.DeepEqual(first, want) {
				t.Errorf("%+v, %v", first, err)
			}
			spoil(first)
			if !reflect.DeepEqual(second, want) {
				t.Errorf("%+v", second)
			}
		}
	}
	// No two values of one answer share their digits.
	r := result(t, listOf(t, num), "1 2 3")
	for i := range r.Values {
		d := r.Values[i].Num.Digits
		d = d[:cap(d)]
		for j := range d {
			d[j] = byte(i)
		}
	}
	for i, v := range r.Values {
		if v.Num.Digits[0] != byte(i) {
			t.Errorf("%d: %v", i, v.Num.Digits)
		}
	}
}

// TestP2MembersAreNew: to write all over members that are answered, or that were
// handed in, turns nothing; what is handed in stays.
func TestP2MembersAreNew(t *testing.T) {
	num, truth, str := builtin(t, kind.Int), builtin(t, kind.Boolean), builtin(t, kind.String)
	given := []*simple.Type{str, num, truth, str, str}
	before := slices.Clone(given)
	x := unionOf(t, given[1:3]...)
	y := restricted(t, x, "pattern:.*")
	if !slices.Equal(given, before) {
		t.Error("members are changed")
	}
	for i := range given {
		given[i] = nil
	}
	for range 3 {
		for _, u := range []*simple.Type{x, y} {
			l := u.Members()
			if !slices.Equal(l, []*simple.Type{num, truth}) {
				t.Fatalf("%d members", len(l))
			}
			l = l[:cap(l)]
			for i := range l {
				l[i] = nil
			}
			checkTakes(t, u, []string{"7", "true"}, []string{"x"})
			if !simple.Derived(num, x) || simple.Derived(str, x) || !u.Has(kind.Int) || u.Has(kind.String) {
				t.Error("a union is changed")
			}
		}
	}
}

// TestP2FacetsAreNotKept: facets and their spare room stay as they were; what is
// written there later turns nothing.
func TestP2FacetsAreNotKept(t *testing.T) {
	num := builtin(t, kind.Int)
	plain := unionOf(t, num, builtin(t, kind.Boolean))
	for _, c := range []struct {
		base *simple.Type
		l    []facet.Facet
	}{
		{num, row("length:1", "pattern:[1-5]", "enumeration:1", "enumeration:7", "minInclusive:1", "length:7")}, {listOf(t, num), row("?", "pattern:[1-5]", "enumeration:1", "enumeration:7", "length:1", "length:7")},
		{plain, row("?", "pattern:[1-5]", "enumeration:1", "enumeration:7", "?")}, {listOf(t, plain), row("?", "enumeration:1", "pattern:[1-5]", "enumeration:7", "length:1", "?")},
	} {
		before := slices.Clone(c.l)
		x, at, err := simple.Restrict(c.base, c.l[1:len(c.l)-1])
		if err != api.OK || !slices.Equal(c.l, before) {
			t.Fatalf("%d, %v: %v", at, err, c.l)
		}
		for i := range c.l {
			c.l[i] = facet.Facet{Kind: facet.Pattern, Text: "x"}
		}
		checkTakes(t, x, []string{"1", " 1 "}, []string{"7", "2", "01", "x"})
	}
}

// TestP2NothingIsChanged: Same and Key leave what they are handed.
func TestP2NothingIsChanged(t *testing.T) {
	digits := []byte{77, 1, 2, 5, 6}
	v := []kind.Value{{Prim: 5}, {Prim: kind.Decimal, Num: dec.Dec{Digits: digits[1:4], Scale: 1}}, {Prim: kind.String, Text: "a"}, {Prim: 6}}
	before := slices.Clone(v)
	r := told(kind.Int, 3, "x", v[1:3]...)
	twelve := told(0, 0, "y", values(t, kind.Decimal, "12.5")[0], values(t, kind.String, "a")[0])
	if !simple.Same(r, twelve) || !simple.Same(twelve, r) || simple.Key(r) != "decimal 12.5\nstring a\n" {
		t.Errorf("%q", simple.Key(r))
	}
	if !slices.Equal(digits, []byte{77, 1, 2, 5, 6}) || !reflect.DeepEqual(v, before) {
		t.Errorf("%v, %+v", digits, v)
	}
}

// TestP2NoListIsAnEmptyOne: a list handed in may be nil or empty.
func TestP2NoListIsAnEmptyOne(t *testing.T) {
	num := builtin(t, kind.Int)
	plain := unionOf(t, num)
	for _, base := range []*simple.Type{num, plain, listOf(t, num), listOf(t, plain)} {
		for _, l := range [][]facet.Facet{nil, {}} {
			x, at, err := simple.Restrict(base, l)
			if x == nil || at != 0 || err != api.OK {
				t.Fatalf("%d, %v", at, err)
			}
			checkTakes(t, x, []string{"1", " 1 "}, []string{"x"})
		}
	}
}

// TestP3SameAnswers: what a type was asked ahead turns nothing, nor what others ask
// of it, not even at once.
func TestP3SameAnswers(t *testing.T) {
	num, truth := builtin(t, kind.Int), builtin(t, kind.Boolean)
	plain := restricted(t, unionOf(t, num, truth), "enumeration:3", "enumeration:true", "pattern:[0-9]*", "pattern:[a-z]*")
	lists := restricted(t, listOf(t, unionOf(t, plain, builtin(t, kind.Date))), "maxLength:2", "pattern:.*")
	var crew sync.WaitGroup
	for range 8 {
		crew.Go(func() {
			for _, s := range []string{"3", "true", "x", "03", "4", "false", "+3", "3 true", "3 3 3", "3 2000-01-01", "3"} {
				_, one := plain.Parse(s)
				_, two := lists.Parse(s)
				if (one == api.OK) != strings.Contains("|3|true|03|", "|"+s+"|") || (two == api.OK) != strings.Contains("|3|true|03|3 true|3 2000-01-01|", "|"+s+"|") {
					t.Errorf("%q: %v, %v", s, one, two)
				}
				if b, err := simple.Builtin(kind.Int); b != num || err != api.OK || num.Base().Base().Base().Base() != simple.AnyType() {
					t.Error("Builtin")
				}
				if !simple.Derived(plain, simple.AnyType()) || !lists.Has(kind.Date) || len(plain.Members()) != 2 {
					t.Error("plain, lists")
				}
			}
		})
	}
	crew.Wait()
}

// TestP7OwnTypes: makers answer a type that nobody else has, of the same parts, too.
func TestP7OwnTypes(t *testing.T) {
	num := builtin(t, kind.Int)
	all := map[*simple.Type]int{num: 1}
	for range 2 {
		plain := unionOf(t, num)
		for _, x := range []*simple.Type{plain, listOf(t, num), unionOf(t, plain), restricted(t, num), restricted(t, plain, "pattern:1"), restricted(t, listOf(t, num))} {
			all[x]++
		}
	}
	if len(all) != 13 {
		t.Errorf("%d types", len(all))
	}
}

// TestP1DeepTypes: types that lie within, or restrict, one another to any depth.
func TestP1DeepTypes(t *testing.T) {
	// Whoever goes down by calls leaves this room.
	defer debug.SetMaxStack(debug.SetMaxStack(1 << 20))
	const deep = 50000
	num := builtin(t, kind.Int)
	plain, narrow, low := unionOf(t, num), unionOf(t, num), num
	first := narrow
	for range deep {
		plain = unionOf(t, plain)
		narrow = unionOf(t, restricted(t, narrow))
		low = restricted(t, low)
	}
	low = restricted(t, low, "maxInclusive:5")
	for i, x := range []*simple.Type{plain, narrow, low, listOf(t, plain), listOf(t, narrow), listOf(t, low), unionOf(t, low, plain, narrow), unionOf(t, listOf(t, unionOf(t, narrow, plain)))} {
		checkTakes(t, x, []string{"5", " 1"}, []string{"x", "1.0"})
		checkTakes(t, restricted(t, x, "pattern:1", "enumeration:1"), []string{"1"}, []string{"5", "01"})
		if !x.Has(kind.Integer) || x.Has(kind.ID) || !simple.Derived(x, simple.AnyType()) || simple.Derived(x, first) != (x == low) || simple.Derived(first, x) {
			t.Errorf("%d: Has, Derived", i)
		}
	}
	if !simple.Derived(num, plain) || !simple.Derived(low, plain) || simple.Derived(num, narrow) || !simple.Derived(low, num) || simple.Derived(num, low) {
		t.Error("Derived")
	}
}

// TestP1Many: the longest lists, of the Unions that have most.
func TestP1Many(t *testing.T) {
	num := restricted(t, builtin(t, kind.Byte), "maxInclusive:5")
	eight := unionOf(t, slices.Repeat([]*simple.Type{num}, 8)...)
	most := unionOf(t, unionOf(t, slices.Repeat([]*simple.Type{eight}, 31)...), unionOf(t, slices.Repeat([]*simple.Type{num}, 7)...), builtin(t, kind.NMToken))
	x := listOf(t, most)
	text := strings.Repeat("a ", api.MaxText/2)
	if r, err := x.Parse(text); err != api.OK || len(r.Values) != api.MaxText/2 || len(r.Text) != api.MaxText-1 {
		t.Errorf("%d, %v", len(r.Values), err)
	}
	checkTakes(t, x, nil, []string{text + "/"})
	var l []string
	for range 20000 {
		l = append(l, "enumeration:a", "pattern:b*")
	}
	y := restricted(t, most, append(l, "enumeration:b", "pattern:1")...)
	checkTakes(t, y, []string{"b"}, []string{"a", "1", "bb"})
}

// TestP8WhatMayNotBe: a Type that no maker made, and results that no text tells:
// every call ends, and changes nothing.
func TestP8WhatMayNotBe(t *testing.T) {
	x := new(simple.Type)
	x.Variety()
	x.Kind()
	x.Base()
	x.Item()
	x.Members()
	x.White()
	x.Parse("a")
	x.Has(kind.ID)
	simple.Derived(x, simple.AnyType())
	simple.Derived(simple.AnyType(), x)
	simple.NewList(x)
	simple.NewUnion(x, x)
	simple.Restrict(x, row("pattern:a", "enumeration:a"))
	digits := []byte{9, 255, 0}
	var all []kind.Value
	for prim := -1; prim <= kind.Duration+1; prim++ {
		for _, n := range []int{math.MinInt, -1, 0, 13, math.MaxInt} {
			all = append(all, kind.Value{
				Prim: prim, Text: "\xff", Num: dec.Dec{Neg: true, Digits: digits[:2], Scale: n},
				When: date.Moment{Kind: date.Date, Year: n, Month: -n, Day: n, Sec: n, Nano: n, HasZone: n > 0, Zone: n},
				Span: date.Span{Months: n, Sec: -n, Nano: n},
			}, kind.Value{Prim: prim})
		}
	}
	for i := range all {
		simple.Key(told(-1, -1, "\xff", all[i:]...))
		for j := range all {
			simple.Same(told(i, j, "\xff", all[i]), told(0, 0, "", all[j]))
		}
	}
	if !slices.Equal(digits, []byte{9, 255, 0}) {
		t.Errorf("digits: %v", digits)
	}
}

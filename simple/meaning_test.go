package simple_test

import (
	"math/rand"
	"reflect"
	"slices"
	"strings"
	"testing"

	"rubric/api"
	"rubric/char"
	"rubric/facet"
	"rubric/kind"
	"rubric/nfa"
	"rubric/simple"
)

// said is a type by what it was made of: the chapter's sentences go over that by
// recursion.
type said struct {
	made    *simple.Type
	variety string // of one that restricts none
	k       int
	item    *said
	members []*said
	base    *said // of one that restricts it
	l       []facet.Facet
	check   *facet.Check // of what facet.Compile takes of l
}

// root is the type that s is, or restricts.
func (s *said) root() *said {
	for s.base != nil {
		s = s.base
	}
	return s
}

// steps are the restrictions that led to s, the base's ahead.
func (s *said) steps() []*said {
	if s.base == nil {
		return nil
	}
	return append(s.base.steps(), s)
}

func (s *said) white() int {
	switch s.root().variety {
	case "list":
		return char.Collapse
	case "atomic":
		white := kind.White(s.root().k)
		for _, step := range s.steps() {
			for _, f := range step.l {
				if f.Kind == facet.White {
					white = map[string]int{"preserve": 1, "replace": 2, "collapse": 3}[strings.TrimSpace(f.Text)]
				}
			}
		}
		return white
	}
	return char.Preserve
}

func (s *said) parse(text string) (simple.Result, bool) {
	r, ok := s.first(text)
	for _, step := range s.steps() {
		ok = ok && step.holds(r)
	}
	if !ok {
		return simple.Result{}, false
	}
	return r, true
}

// first is what a text tells ahead of all steps.
func (s *said) first(text string) (simple.Result, bool) {
	root := s.root()
	switch root.variety {
	case "atomic":
		put := char.Space(text, s.white())
		v, err := kind.Parse(root.k, put)
		return simple.Result{Kind: root.k, White: s.white(), Text: put, Values: []kind.Value{v}}, err == api.OK
	case "list":
		r := simple.Result{White: char.Collapse, Text: strings.Join(strings.Fields(text), " ")}
		for _, word := range strings.Fields(text) {
			got, ok := root.item.parse(word)
			if !ok {
				return r, false
			}
			r.Values = append(r.Values, got.Values...)
		}
		return r, true
	case "union":
		for _, m := range root.members {
			if r, ok := m.parse(text); ok {
				return r, true
			}
		}
		return simple.Result{}, false
	}
	return simple.Result{White: char.Preserve, Text: text}, true
}

// free tells whether values may be of any kind, so that enumerations are not facet's.
func (s *said) free() bool {
	root := s.root()
	return root.variety == "union" || root.variety == "list" && root.item.root().variety == "union"
}

// holds is what the one step asks.
func (s *said) holds(r simple.Result) bool {
	if s.check != nil && !s.check.Holds(r.Text, r.Values) {
		return false
	}
	if !s.free() {
		return true
	}
	enums, same, patterns, matched := 0, 0, 0, 0
	for _, f := range s.l {
		switch f.Kind {
		case facet.Enum:
			enums++
			if e, _ := s.base.parse(f.Text); simple.Same(e, r) {
				same++
			}
		case facet.Pattern:
			patterns++
			if m, _, _ := nfa.Compile(f.Text, api.MaxPos); m.Match(r.Text) {
				matched++
			}
		}
	}
	return (enums == 0 || same > 0) && (patterns == 0 || matched > 0)
}

// compiles is what Restrict has to answer of s, which restricts its base: the check,
// or the error and its place.
func (s *said) compiles() (*facet.Check, int, api.Errno) {
	root := s.root()
	if root.variety == "any" {
		return nil, 0, api.ErrNot
	}
	for _, f := range s.l {
		if f.Kind < 1 || f.Kind > 12 {
			return nil, 0, api.ErrArg
		}
	}
	switch {
	case root.variety == "union":
		at, err := s.unionError()
		return nil, at, err
	case s.free():
		return s.mixedError()
	case root.variety == "list":
		return s.compiled(root.item.root().k, true)
	}
	return s.compiled(root.k, false)
}

func (s *said) compiled(k int, list bool) (*facet.Check, int, api.Errno) {
	c, at, err := facet.Compile(k, list, s.base.white(), s.l)
	if err != api.OK {
		return nil, at, err
	}
	for at, f := range s.l {
		valued := f.Kind == facet.Enum || f.Kind >= facet.MaxIn && f.Kind <= facet.MinEx
		if _, ok := s.base.parse(f.Text); valued && !ok {
			return nil, at, api.ErrNot
		}
	}
	return c, 0, api.OK
}

func (s *said) unionError() (int, api.Errno) {
	for at, f := range s.l {
		if f.Kind == facet.Pattern {
			if _, _, err := nfa.Compile(f.Text, api.MaxPos); err != api.OK {
				return at, err
			}
		} else if f.Kind == facet.Enum {
			if _, ok := s.base.parse(f.Text); !ok {
				return at, api.ErrForm
			}
		} else {
			return at, api.ErrNot
		}
	}
	return 0, api.OK
}

func (s *said) mixedError() (*facet.Check, int, api.Errno) {
	var others []facet.Facet
	for at, f := range s.l {
		if f.Kind != facet.Enum {
			others = append(others, f)
		} else if _, ok := s.base.parse(f.Text); !ok {
			return nil, at, api.ErrForm
		}
	}
	return facet.Compile(kind.String, true, char.Collapse, others)
}

// leaves are the types within s that are no Unions, each as often as it comes.
func (s *said) leaves() []*said {
	root := s.root()
	if root.variety != "union" {
		return []*said{s}
	}
	var all []*said
	for _, m := range root.members {
		all = append(all, m.leaves()...)
	}
	return all
}

func (s *said) lists() bool {
	return slices.ContainsFunc(s.leaves(), func(m *said) bool { return m.root().variety == "list" })
}

func (s *said) has(k int) bool {
	root := s.root()
	switch root.variety {
	case "atomic":
		return kind.Derived(root.k, k)
	case "list":
		return root.item.has(k)
	}
	return slices.ContainsFunc(root.members, func(m *said) bool { return m.has(k) })
}

// above is the type that s has as its Base.
func (s *said) above(all []*said) *said {
	switch {
	case s.base != nil:
		return s.base
	case s.variety == "any":
		return nil
	case s.variety == "atomic":
		// all begins with AnyType and the kinds, by their numbers.
		return all[kind.Base(s.k)]
	}
	return all[0]
}

func (s *said) derived(from *said, all []*said) bool {
	if from == all[0] || from == s {
		return true
	}
	if b := s.above(all); b != nil && b.derived(from, all) {
		return true
	}
	return slices.ContainsFunc(from.members, func(m *said) bool { return s.derived(m, all) })
}

// facets are texts of facets of all sorts, and words are texts for values.
func pieces() (facets, words []string) {
	facets = []string{"length:0", "length:1", "length:2", "minLength:1", "minLength:2", "maxLength:1", "maxLength:2", "maxLength:x", "whiteSpace:preserve", "whiteSpace:replace", "whiteSpace:collapse", "totalDigits:1", "totalDigits:2", "fractionDigits:0", "fractionDigits:1", "?:1"}
	for _, s := range []string{".*", ".*", "[0-9 ]*", "[^0]*", "[a-z]+", ".{1,4}", " .*", "[^ ]*", "(", "\\p{Lt}", "a{513}"} {
		facets = append(facets, "pattern:"+s)
	}
	words = []string{"", " ", "a", " a ", "b", "a b", "1", "01", " 1", "2", "12", "1.5", "1.50", "-3", "0", "true", "false", "1 2", "1 true", "a\tb\nc", "2000-01-01", "2000-01-01Z", "2000-01-02", "2000-01-01 1", "P1M", "P30D", "300", "x:y", "\xff"}
	for _, s := range words {
		for _, name := range []string{"enumeration", "enumeration", "minInclusive", "maxInclusive", "maxExclusive"} {
			facets = append(facets, name+":"+s)
		}
	}
	return facets, words
}

// world is types that were made, each as it is said.
type world struct {
	t      *testing.T
	r      *rand.Rand
	all    []*said
	facets []string
	words  []string
	counts map[string]int
}

// pick is one of the types, those that were made last being met more often.
func (w *world) pick() *said {
	n := len(w.all)
	if n > 60 && w.r.Intn(2) == 0 {
		return w.all[n-1-w.r.Intn(30)]
	}
	return w.all[w.r.Intn(n)]
}

// add keeps a new type, if its error is none; the error must be the chapter's.
func (w *world) add(s *said, err, want api.Errno, what string) {
	w.counts[what+" "+want.Error()]++
	if err != want || (s.made != nil) != (err == api.OK) {
		w.t.Fatalf("%s: %v; want %v", what, err, want)
	}
	if err == api.OK {
		w.all = append(w.all, s)
	}
}

func (w *world) list() {
	s := &said{variety: "list", item: w.pick()}
	want := api.OK
	if s.item.root().variety == "any" || s.item.lists() {
		want = api.ErrNot
	}
	var err api.Errno
	s.made, err = simple.NewList(s.item.made)
	w.add(s, err, want, "list")
}

func (w *world) union() {
	s := &said{variety: "union"}
	var members []*simple.Type
	want := api.OK
	for range 1 + w.r.Intn(4) {
		m := w.pick()
		s.members = append(s.members, m)
		members = append(members, m.made)
		if m.root().variety == "any" {
			want = api.ErrNot
		}
	}
	if want == api.OK && len(s.leaves()) > 256 {
		want = api.ErrMany
	}
	var err api.Errno
	s.made, err = simple.NewUnion(members...)
	w.add(s, err, want, "union")
}

func (w *world) restrict() {
	s := &said{base: w.pick()}
	for range w.r.Intn(4) {
		s.l = append(s.l, row(w.facets[w.r.Intn(len(w.facets))])...)
	}
	check, wantAt, want := s.compiles()
	s.check = check
	var err api.Errno
	var at int
	s.made, at, err = simple.Restrict(s.base.made, s.l)
	if at != wantAt {
		w.t.Fatalf("Restrict(%v): %d; want %d", s.l, at, wantAt)
	}
	w.add(s, err, want, "restrict")
}

// check asks all of one type.
func (w *world) check(s *said) {
	root, x := s.root(), s.made
	variety := map[string]int{"atomic": simple.Atomic, "list": simple.List, "union": simple.Union, "any": simple.Any}[root.variety]
	var base, item *simple.Type
	var members []*simple.Type
	if b := s.above(w.all); b != nil {
		base = b.made
	}
	if root.item != nil {
		item = root.item.made
	}
	for _, m := range root.members {
		members = append(members, m.made)
	}
	if x.Variety() != variety || x.Kind() != root.k || x.Base() != base || x.Item() != item || !slices.Equal(x.Members(), members) || x.White() != s.white() {
		w.t.Errorf("%s: %d, %d, %d", root.variety, x.Variety(), x.Kind(), x.White())
	}
	for k := range kind.Duration + 2 {
		if x.Has(k) != s.has(k) {
			w.t.Errorf("Has(%d): %v", k, x.Has(k))
		}
	}
	for _, text := range w.words {
		r, err := x.Parse(text)
		want, ok := s.parse(text)
		w.counts["parse "+err.Error()]++
		if (err == api.OK) != ok || !ok && err != api.ErrForm || !reflect.DeepEqual(r, want) {
			w.t.Errorf("%s: Parse(%q): %+v, %v; want %+v, %v", root.variety, text, r, err, want, ok)
		}
	}
}

// TestP1302Meaning: types made at random of each other, with facets that fit and
// such that do not, hold what the chapter says of what they were made of.
func TestP1302Meaning(t *testing.T) {
	counts := map[string]int{}
	for seed := range 20 {
		w := &world{t: t, r: rand.New(rand.NewSource(int64(seed))), counts: counts}
		w.facets, w.words = pieces()
		w.all = []*said{{made: simple.AnyType(), variety: "any"}}
		for k := 1; k <= kind.Duration; k++ {
			w.all = append(w.all, &said{made: builtin(t, k), variety: "atomic", k: k})
		}
		for range 900 {
			switch w.r.Intn(8) {
			case 0:
				w.list()
			case 1, 2:
				w.union()
			default:
				w.restrict()
			}
		}
		for _, s := range w.all {
			w.check(s)
		}
		for range 3000 {
			a, b := w.pick(), w.pick()
			want := a.derived(b, w.all)
			if simple.Derived(a.made, b.made) != want {
				t.Errorf("Derived: %v", !want)
			}
			if want {
				counts["derived"]++
			}
		}
	}
	for what, least := range map[string]int{"list ok": 300, "list not": 300, "union ok": 2000, "union not": 20, "union many": 50, "restrict ok": 2000, "restrict not": 2000, "restrict form": 1000, "restrict dup": 5, "restrict odd": 20, "restrict many": 20, "restrict arg": 20, "parse ok": 50000, "parse form": 50000, "derived": 500} {
		if counts[what] < least {
			t.Errorf("only %d are %s", counts[what], what)
		}
	}
}

package ns

import (
	"strconv"
	"testing"

	"rubric/api"
	"rubric/xml"
)

// Room (DOC.md's T3) is that of what is open: neither a prefix that was bound
// nor an element's map stays behind, whether it was closed or refused.
func TestP302NothingStaysBehind(t *testing.T) {
	s := New()
	for i := range 100 {
		bind := xml.Attr{Name: "xmlns:p" + strconv.Itoa(i), Value: "u"}
		for _, name := range []string{"a", "q:a"} {
			s.Open(xml.Event{Kind: xml.Start, Name: name, Attrs: []xml.Attr{bind}})
		}
		if s.Depth() != i+1 || len(s.now) != i+1 {
			t.Fatalf("depth %d, %d prefixes; want %d", s.Depth(), len(s.now), i+1)
		}
	}
	if _, _, err := s.Open(xml.Event{Kind: xml.Start, Name: "q:a"}); err != api.ErrNone {
		t.Fatal(err)
	}
	for s.Close() {
	}
	if len(s.now) != 0 {
		t.Errorf("%d prefixes stay", len(s.now))
	}
	for i, m := range s.hid[:cap(s.hid)] {
		if m != nil {
			t.Errorf("the map of element %d stays", i)
		}
	}
}

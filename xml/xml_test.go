package xml_test

import (
	"fmt"
	"reflect"
	"slices"
	"strings"
	"testing"

	"rubric/api"
	"rubric/xml"
)

// one is a document of one empty root, with what stands about it.
func one(ahead, behind string) string {
	return ahead + "<a/>" + behind
}

// within is a document with c as its root's content.
func within(c string) string {
	return "<a>" + c + "</a>"
}

// tell writes events in one line, so that a test can say what it wants.
func tell(l []xml.Event) string {
	var out []string
	for _, e := range l {
		s := ""
		switch e.Kind {
		case xml.Start:
			s = fmt.Sprintf("%d<%s", e.At, e.Name)
			for _, a := range e.Attrs {
				s += fmt.Sprintf(" %d:%s=%q", a.At, a.Name, a.Value)
			}
		case xml.End:
			s = fmt.Sprintf("%d/%s", e.At, e.Name)
		case xml.Text:
			s = fmt.Sprintf("%d%q", e.At, e.Text)
		}
		out = append(out, s)
	}
	return strings.Join(out, " ")
}

func checkFault(t *testing.T, doc string, l api.Limits, wantAt int, want api.Errno) {
	t.Helper()
	if _, at, err := xml.All([]byte(doc), l); at != wantAt || err != want {
		t.Errorf("%q, %+v: %d, %v; want %d, %v", doc, l, at, err, wantAt, want)
	}
}

func checkEvents(t *testing.T, doc string, want string) {
	t.Helper()
	l, at, err := xml.All([]byte(doc), api.Limits{})
	if at != 0 || err != api.OK || tell(l) != want {
		t.Errorf("%q: %s; %d, %v; want %s", doc, tell(l), at, err, want)
	}
}

// row is a document and the place of its first fault.
type row struct {
	doc string
	at  int
}

func checkForms(t *testing.T, rows []row) {
	t.Helper()
	for _, r := range rows {
		checkFault(t, r.doc, api.Limits{}, r.at, api.ErrForm)
	}
}

// documents are of every form that the grammar has.
func documents() []string {
	return []string{
		"<a/>",
		"<a></a>",
		"<a ></a >",
		"<a\t\r\n ></a\t\r\n >",
		" \t\r\n<a />\r\n\t ",
		"<a:b-c._1\u00b7\u00e9\U0001F600/>",
		"<_/>",
		"<:/>",
		"<ab><a></a><abc/></ab>",
		"<?xml version=\"1.0\"?><a/>",
		"<?xml version='1.0'?><a/>",
		"<?xml \t\r\nversion \t\r\n= \t\r\n\"1.0\" \t\r\n?>\n<a/>",
		"<?xml version='1.0' encoding='UTF-8'?><a/>",
		"<?xml version='1.0' encoding=\"utf-8\" ?><a/>",
		"<?xml version='1.0'\tencoding = 'uTf-8'\rstandalone\n=\n'yes'?><a/>",
		"<?xml version=\"1.0\" standalone=\"no\" ?><a/>",
		"<?xml version='1.0'  standalone = \"yes\"?><a/>",
		"<?xml-sheet x?><a/>",
		"<?xmlx?><a/>",
		"<?xml:x?><a/>",
		"<?p?><a/><?p?>",
		"<?p ?><a/>\n<?p \t q ?? > ? ?>\n",
		"<?p  xml version='1.0' <&]]>-- ??><a/>",
		"<!----><a/><!---->",
		"<!-- - -a- <b> & ]]> ?> --> <a/> <!-->--> <!---> -->",
		within("<!----><?p?><!-- x --><?q r?>"),
		within("x > y ] ]] ]>] \" ' = / ? ! --> ?> -- /> \t\r\n"),
		within("]]&gt;"),
		within("]]<!---->>]<?p?>]>"),
		within("]]<![CDATA[>]]>]<![CDATA[]]]>>"),
		within("<![CDATA[]]>"),
		within("<![CDATA[<&]]]]>]]"),
		within("<![CDATA[ ]] > ]> & <b> <!-- <![CDATA[ ]]]]]>"),
		within("&lt;&gt;&amp;&quot;&apos;"),
		within("&#9;&#10;&#13;&#32;&#xD7FF;&#xE000;&#xFFFD;&#x10000;&#x10FFFF;&#1114111;"),
		within("&#x000000000000000000041;&#00000000000000000000065;&#xaBcDe;"),
		"<a x='' y=\"\"/>",
		"<a x=\"'\" y='\"' z='>]]>--?>/'/>",
		"<a x = '1'\ty\r=\n'2'\n\n\nz='3' />",
		"<a x='1' xy='2' X='3' y:x='4'/>",
		"<a x='&lt;&#x10FFFF;&apos;&quot;'/>",
		"<a x='1'>t<b y='2'/>u<c>v</c>w</a>",
		within("\u00e9\u20ac\U0001F600\uFFFD\x7f\u0080"),
	}
}

func TestP201Documents(t *testing.T) {
	for _, doc := range documents() {
		checkFault(t, doc, api.Limits{}, 0, api.OK)
	}
}

func TestP201Declaration(t *testing.T) {
	checkForms(t, []row{
		{"<?xml?><a/>", 2},
		{"<?xml ?><a/>", 6},
		{"<?xml  Version='1.0'?><a/>", 7},
		{"<?xml versiom='1.0'?><a/>", 6},
		{"<?xml versionx='1.0'?><a/>", 13},
		{"<?xml version'1.0'?><a/>", 13},
		{"<?xml version==?><a/>", 14},
		{"<?xml version=1.0?><a/>", 14},
		{"<?xml version=''?><a/>", 15},
		{"<?xml version='1.1'?><a/>", 15},
		{"<?xml version='1,0'?><a/>", 15},
		{"<?xml version='2.0'?><a/>", 15},
		{"<?xml version='1.00'?><a/>", 18},
		{"<?xml version='1.0\"?><a/>", 18},
		{"<?xml version=\"1.0'?><a/>", 18},
		{"<?xml version='1.0'><a/>", 19},
		{"<?xml version='1.0'? ><a/>", 20},
		{"<?xml version='1.0'encoding='UTF-8'?><a/>", 19},
		{"<?xml version='1.0'standalone='no'?><a/>", 19},
		{"<?xml version='1.0' x='1'?><a/>", 20},
		{"<?xml version='1.0' version='1.0'?><a/>", 20},
		{"<?xml version='1.0' Encoding='UTF-8'?><a/>", 20},
		{"<?xml version='1.0' encodinG='UTF-8'?><a/>", 20},
		{"<?xml version='1.0' encoding:='UTF-8'?><a/>", 28},
		{"<?xml version='1.0' encoding='UTF-16'?><a/>", 30},
		{"<?xml version='1.0' encoding='UTF_8'?><a/>", 30},
		{"<?xml version='1.0' encoding='UTF\r8'?><a/>", 30},
		{"<?xml version='1.0' encoding='UTF8'?><a/>", 30},
		{"<?xml version='1.0' encoding='UTF-7'?><a/>", 30},
		{"<?xml version='1.0' encoding='utf-9'?><a/>", 30},
		{"<?xml version='1.0' encoding='utf-7'?><a/>", 30},
		{"<?xml version='1.0' encoding='UTF-9'?><a/>", 30},
		{"<?xml version='1.0' encoding='ISO-8859-1'?><a/>", 30},
		{"<?xml version='1.0' encoding='UT\u0446-8'?><a/>", 30},
		{"<?xml version='1.0' encoding=''?><a/>", 30},
		{"<?xml version='1.0' encoding='UTF-8x'?><a/>", 35},
		{"<?xml version='1.0' encoding='UTF-8'standalone='no'?><a/>", 36},
		{"<?xml version='1.0' encoding='UTF-8' encoding='UTF-8'?><a/>", 37},
		{"<?xml version='1.0' standalonE='no'?><a/>", 20},
		{"<?xml version='1.0' standalone='No'?><a/>", 32},
		{"<?xml version='1.0' standalone='nx'?><a/>", 32},
		{"<?xml version='1.0' standalone='YES'?><a/>", 32},
		{"<?xml version='1.0' standalone='yet'?><a/>", 32},
		{"<?xml version='1.0' standalone=''?><a/>", 32},
		{"<?xml version='1.0' standalone='not'?><a/>", 34},
		{"<?xml version='1.0' standalone='yes' encoding='UTF-8'?><a/>", 37},
		{"<?xml version='1.0' standalone='yes' standalone='yes'?><a/>", 37},
		{" <?xml version='1.0'?><a/>", 3},
		{"<!----><?xml version='1.0'?><a/>", 9},
		{"<?xml version='1.0'?><?xml version='1.0'?><a/>", 23},
		{"<?XML version='1.0'?><a/>", 2},
		{"\uFEFF<a/>", 0},
	})
}

func TestP201AboutTheElement(t *testing.T) {
	checkForms(t, []row{
		{"", 0},
		{" \n", 2},
		{"<!---->", 7},
		{"x", 0},
		{" x<a/>", 1},
		{"]]><a/>", 0},
		{"&lt;<a/>", 0},
		{"&#32;<a/>", 0},
		{"<a/>x", 4},
		{"<a/> &#32;", 5},
		{"<a/><b/>", 4},
		{"<a></a> <b></b>", 8},
		{"<a/></a>", 4},
		{"</a>", 0},
		{" </a>", 1},
		{"<a/>< b/>", 4},
		{"<a/><![CDATA[]]>", 4},
		{"<![CDATA[]]><a/>", 0},
		{" <!DOCTYPE a><a/>", 1},
		{"<a/><!x", 4},
		{"<>", 1},
		{"< a/>", 1},
		{"<1/>", 1},
		{"<-/>", 1},
		{"<\u00d7/>", 1},
		{"<\u00b7/>", 1},
	})
}

func TestP201Elements(t *testing.T) {
	checkForms(t, []row{
		{"<a", 2}, {"<a ", 3}, {"<a/", 3}, {"<a>", 3}, {"<a><", 4}, {"<a></", 5}, {"<a></a", 6}, {"<a></a ", 7},
		{"<a/ >", 3},
		{"<a / >", 4},
		{"<a/x>", 3},
		{"<a\"/>", 2},
		{"<a=''/>", 2},
		{"<a<b/>", 2},
		{"<a <b/>", 3},
		{"<a\u00d7/>", 2},
		{"<a></b>", 3},
		{"<a></A>", 3},
		{"<a></ab>", 3},
		{"<ab></a>", 4},
		{"<ab></a >", 4},
		{"<ab></a$>", 4},
		{"<a><b></a></b>", 6},
		{"<a><b/></b></a>", 7},
		{"<a></ a>", 5},
		{"<a></>", 5},
		{"<a></1>", 5},
		{"<a></a x=''>", 7},
		{"<a></a/>", 6},
		{"<a></a<", 6},
		{"<a>< b/></a>", 4},
		{"<a><1/></a>", 4},
		{"<a><=/></a>", 4},
	})
}

func TestP201Attributes(t *testing.T) {
	checkForms(t, []row{
		{"<a x/>", 4},
		{"<a x>", 4},
		{"<a x y=''/>", 5},
		{"<a x=/>", 5},
		{"<a x=y/>", 5},
		{"<a x= ='1'/>", 6},
		{"<a x='1\"/>", 10},
		{"<a x=\"1'/>", 10},
		{"<a x='1'y='2'/>", 8},
		{"<a x='1''2'/>", 8},
		{"<a x='<'/>", 6},
		{"<a x='&lt;<'/>", 10},
		{"<a 1='1'/>", 3},
		{"<a ='1'/>", 3},
		{"<a '1'/>", 3},
		{"<a x='1' x='2'/>", 9},
		{"<a x='1' y='2' x='3'/>", 15},
		{"<a x='1' y='2' y='3'/>", 15},
		{"<a x='1' x/>", 9},
		{"<a x='1' x y=''/>", 9},
		{"<a x='1' x$='2'/>", 9},
		{"<a x='1' x=<", 9},
		{"<a x='&y;'/>", 6},
		{"<a x='1&#0;'/>", 7},
		{"<a x='&'/>", 6},
		{"<a x='&lt'/>", 6},
	})
}

func TestP201NotesAndInstructions(t *testing.T) {
	checkForms(t, []row{
		{"<!-- -- --><a/>", 5},
		{"<!-- --x--><a/>", 5},
		{"<!-----><a/>", 4},
		{"<!------><a/>", 4},
		{"<!-- x---><a/>", 6},
		{"<!--> <a/>", 10},
		{"<!---> <a/>", 11},
		{within("<!--x--y-->"), 8},
		{within("x<!-x-->"), 4},
		{within("x<!x-->"), 4},
		{within("x<!>"), 4},
		{within("x<! -- -->"), 4},
		{within("x<!DOCTYPE y>"), 4},
		{within("x<![CDATA]]>"), 4},
		{within("x<![cdata[]]>"), 4},
		{within("x<![CDATA [x]]>"), 4},
		{within("x<![ CDATA[x]]>"), 4},
		{within("x<![CDATA[x]]"), 20},
		{within("x<![CDATA[x] ]>"), 22},
		{"<??><a/>", 2},
		{"<? p?><a/>", 2},
		{"<?1?><a/>", 2},
		{"<?p/?><a/>", 3},
		{"<?p><a/>", 3},
		{"<?p?q?><a/>", 4},
		{"<?p? ><a/>", 4},
		{"<?p ? ><a/>", 11},
		{"<?p x><a/>", 10},
		{"<a/><?xml ?>", 6},
		{"<a/><?XmL?>", 6},
		{"<a/><?xml$", 6},
		{"<a><?xmL x?></a>", 5},
		{within("<?p"), 6},
		{within("<?p "), 11},
	})
}

func TestP201References(t *testing.T) {
	for _, s := range []string{
		"&;", "& ", "&lt ;", "&lt", "&LT;", "&Lt;", "&x;", "&l;", "&ltt;", "&ltx;", "&gt", "&g;", "&q;", "&quo;", "&quote;", "&quot", "&a;", "&am;", "&amp", "&ap;", "&apo;", "&apos", "&apose;", "&amq;", "&ampx;", "&b;", "&nbsp;", "&&lt;",
		"&#;", "&# 9;", "&#a;", "&#9", "&#9 ;", "&#9a;", "&#-9;", "&#+9;", "&#x;", "&#X41;", "&#xg;", "&#xG;", "&#x4g;", "&#x4G;", "&#x`;", "&#x@;", "&#x/;", "&#x:;", "&#/;", "&#:;", "&#x41", "&#x4 1;", "&##9;", "&#&#9;",
		"&#0;", "&#1;", "&#8;", "&#11;", "&#12;", "&#14;", "&#31;", "&#xD800;", "&#xDFFF;", "&#xFFFE;", "&#xFFFF;", "&#x110000;", "&#1114112;",
		"&#4294967305;", "&#x100000009;", "&#18446744073709551625;", "&#x10000000000000009;", "&#99999999999999999999999999;",
	} {
		checkFault(t, within("xy"+s), api.Limits{}, 5, api.ErrForm)
		checkFault(t, "<a x='y"+s+"'/>", api.Limits{}, 7, api.ErrForm)
	}
}

func TestP201Texts(t *testing.T) {
	checkForms(t, []row{
		{within("]]>"), 3},
		{within("]]]>"), 4},
		{within("x]]>y"), 4},
		{within("<!---->]]>"), 10},
		{within("<![CDATA[]]>]]>"), 15},
		{within("&lt;]]>"), 7},
		{within("]]&gt;]]]]>"), 11},
		{"<a x=']]>'>]]></a>", 11},
	})
}

func TestP201Letters(t *testing.T) {
	// Wherever a letter that may not be is put in, it is the first fault: all
	// ahead of it begins some document.
	for _, doc := range documents() {
		for i := 0; i <= len(doc); i++ {
			if i < len(doc) && doc[i]&0xC0 == 0x80 {
				continue
			}
			for _, bad := range []string{"\x00", "\x01", "\x1f", "\xff", "\x80", "\xc3", "\xe2\x82", "\xc0\x80", "\xed\xa0\x80", "\xef\xbf\xbe", "\xf4\x90\x80\x80"} {
				checkFault(t, doc[:i]+bad+doc[i:], api.Limits{}, i, api.ErrForm)
			}
		}
	}
}

func TestP202Kinds(t *testing.T) {
	l, _, _ := xml.All([]byte("<a>x</a>"), api.Limits{})
	want := []xml.Event{{Kind: 1, Name: "a"}, {Kind: 3, At: 3, Text: "x"}, {Kind: 2, At: 4, Name: "a"}}
	if !reflect.DeepEqual(l, want) {
		t.Errorf("%+v", l)
	}
}

func TestP202Events(t *testing.T) {
	for _, r := range []struct{ doc, want string }{
		{"<a/>", `0<a 2/a`},
		{"<a></a>", `0<a 3/a`},
		{" <!--n--><?p?><a\n/><?q?> ", `14<a 17/a`},
		{"<?xml version='1.0'?>\n<a></a >", `22<a 25/a`},
		{"<a><b/><b></b></a>", `0<a 3<b 5/b 7<b 10/b 14/a`},
		{"<a b='1' c:d = \"2\"\te='&lt;3'/>", `0<a 3:b="1" 9:c:d="2" 19:e="<3" 28/a`},
		{"<\u00e9 \u00fc='\u20ac'>\U0001F600</\u00e9>", "0<\u00e9 4:\u00fc=\"\u20ac\" 13\"\U0001F600\" 17/\u00e9"},
		{"<a>x<b>y</b>z</a>", `0<a 3"x" 4<b 7"y" 8/b 12"z" 13/a`},
		{"<a> <b/>\n</a>", `0<a 3" " 4<b 6/b 8"\n" 9/a`},
	} {
		checkEvents(t, r.doc, r.want)
	}
}

func TestP202Text(t *testing.T) {
	for _, r := range []struct{ content, want string }{
		{"x<!--n-->y<?p?>z", `3"xyz"`},
		{"<!--n-->y<?p?>", `11"y"`},
		{"<?p?><!--n-->&lt;", `16"<"`},
		{"<!----><?p q?>", ""},
		{"<![CDATA[]]>", ""},
		{"<![CDATA[]]><!----><![CDATA[]]>", ""},
		{"<!----><![CDATA[x]]>y", `10"xy"`},
		{"<![CDATA[<&]]>", `3"<&"`},
		{"<![CDATA[]]>x", `3"x"`},
		{"<![CDATA[]]]]>", `3"]]"`},
		{"<![CDATA[]]]>", `3"]"`},
		{"<![CDATA[]x]]y]]]z>]]>", `3"]x]]y]]]z>"`},
		{"<![CDATA[]>]]>", `3"]>"`},
		{"<![CDATA[&lt;<!--x--><?p?>]]>", `3"&lt;<!--x--><?p?>"`},
		{"&amp;lt;", `3"&lt;"`},
		{"&#38;lt;&#60;b/>", `3"&lt;<b/>"`},
		{"&lt;&gt;&amp;&quot;&apos;", `3"<>&\"'"`},
		{"&#65;&#x41;&#x6a;&#x6A;&#xe9;&#8364;&#x1F600;", "3\"AAjj\u00e9\u20ac\U0001F600\""},
		{"&#x0;", "fault"},
		{"&#x6f;&#x6F;&#xFA;&#xaf;&#109;", "3\"oo\u00fa\u00afm\""},
		{"x&#x20;", `3"x "`},
		{"]", `3"]"`},
	} {
		l, _, err := xml.All([]byte(within(r.content)), api.Limits{})
		got := "fault"
		if err == api.OK {
			got = tell(l[1 : len(l)-1])
		}
		if got != r.want {
			t.Errorf("%q: %s; want %s", r.content, got, r.want)
		}
	}
}

func TestP202EndsOfLines(t *testing.T) {
	for _, r := range []struct{ in, text, value string }{
		{"a\nb", "a\nb", "a b"},
		{"a\r\nb", "a\nb", "a b"},
		{"a\rb", "a\nb", "a b"},
		{"\r\r\n\n\r", "\n\n\n\n", "    "},
		{"\n\r\n\r", "\n\n\n", "   "},
		{"a\tb", "a\tb", "a b"},
		{" \t ", " \t ", "   "},
		{"&#13;", "\r", "\r"},
		{"&#xD;\n", "\r\n", "\r "},
		{"\r&#10;", "\n\n", " \n"},
		{"&#13;&#10;&#9;&#32;", "\r\n\t ", "\r\n\t "},
	} {
		l, _, err := xml.All([]byte(within(r.in)), api.Limits{})
		if err != api.OK || l[1].Text != r.text {
			t.Errorf("text %q: %+v", r.in, l)
		}
		l, _, err = xml.All([]byte("<a x='"+r.in+"'/>"), api.Limits{})
		if err != api.OK || l[0].Attrs[0].Value != r.value {
			t.Errorf("value %q: %+v", r.in, l)
		}
		if strings.Contains(r.in, "&") {
			continue
		}
		l, _, err = xml.All([]byte(within("<![CDATA["+r.in+"]]>")), api.Limits{})
		if err != api.OK || l[1].Text != r.text {
			t.Errorf("CDATA %q: %+v", r.in, l)
		}
	}
	checkEvents(t, within("x\r<![CDATA[\ny\r]]>\n"), `0<a 3"x\n\ny\n\n" 21/a`)
}

// TestP202NextTellsAll also holds what Next answers behind the end to nothing.
func TestP202NextTellsAll(t *testing.T) {
	docs := append(documents(), "", "x", "<a>x<b/>y<c z=", "<a><b></a>", "<a/>x", strings.Repeat(" ", api.MaxText+1))
	for _, doc := range docs {
		want, wantAt, wantErr := xml.All([]byte(doc), api.Limits{})
		p := xml.New([]byte(doc), api.Limits{})
		var got []xml.Event
		for e, ok := p.Next(); ok; e, ok = p.Next() {
			if at, err := p.Fault(); at != 0 || err != api.OK {
				t.Errorf("%.40q: fault %d, %v ahead of the end", doc, at, err)
			}
			got = append(got, e)
		}
		if !reflect.DeepEqual(got, want) {
			t.Errorf("%.40q: %s; want %s", doc, tell(got), tell(want))
		}
		for range 3 {
			if at, err := p.Fault(); at != wantAt || err != wantErr {
				t.Errorf("%.40q: fault %d, %v; want %d, %v", doc, at, err, wantAt, wantErr)
			}
			if e, ok := p.Next(); ok || !reflect.DeepEqual(e, xml.Event{}) {
				t.Errorf("%.40q: %+v, %v behind the end", doc, e, ok)
			}
		}
	}
}

func TestP203TooEarly(t *testing.T) {
	for _, doc := range documents() {
		l, _, _ := xml.All([]byte(doc), api.Limits{})
		end := l[len(l)-1].At
		end += strings.Index(doc[end:], ">") + 1
		for i := range len(doc) {
			_, at, err := xml.All([]byte(doc[:i]), api.Limits{})
			switch {
			case i >= end && err == api.OK:
			case err != api.ErrForm || at > i || at < i && doc[i]&0xC0 != 0x80:
				t.Errorf("%q: %d, %v", doc[:i], at, err)
			}
		}
	}
	checkForms(t, []row{
		{"<a>\xe2\x82", 3},
		{"<a x='\xf0\x9f\x98", 6},
		{"<?xml ver", 9},
		{"<?xml vex", 6},
		{"<?xml version='1.", 17},
		{"<?xml version='2", 15},
		{"<?xml version='1.0' enc", 23},
		{"<?xml version='1.0' enx", 20},
		{"<?xml version='1.0' encoding='ut", 32},
		{"<?xml version='1.0' encoding='ux", 30},
		{"<?xml version='1.0' standalone='y", 33},
		{"<?xml version='1.0' standalone='n", 33},
		{"<a/><", 5},
		{"<a/><!", 6},
		{"<a/><!-", 7},
		{"<a/><!--", 8},
		{"<a/><!---", 9},
		{"<a/><!----", 10},
		{"<a/><?", 6},
		{"<a/><?xml", 9},
		{"<a/><?p?", 8},
		{"<![", 0},
		{"<a><![", 6},
		{"<a><![CDATA", 11},
		{"<a><![CDATX", 3},
		{"<a>&", 4},
		{"<a>&x", 3},
		{"<a>&am", 6},
		{"<a>&an", 3},
		{"<a>&#", 5},
		{"<a>&#x", 6},
		{"<a>&#x1", 7},
		{"<a>&#0", 6},
		{"<a>&#xD800", 10},
		{"<a>&#x110000", 3},
		{"<a>]]", 5},
		{"<ab></a", 7},
		{"<ab></ab", 8},
		{"<ab></b", 4},
		{"<ab></abc", 4},
		{"<a x='1' x", 10},
		{"<a x='1", 7},
		{"<a x", 4},
		{"<a x=", 5},
	})
}

func TestP203Order(t *testing.T) {
	checkForms(t, []row{
		{"<a>&x\xff", 3},
		{"<a>&am\xff", 6},
		{"<a>&#6\xff", 6},
		{"<?xml vers\xff", 10},
		{"<?xml x\xff", 6},
		{"<!-\xff", 3},
		{"<!x\xff", 0},
		{"<!-- --\xff", 7},
		{"<!-- --x\xff", 5},
		{"<a>]]\xff>", 5},
		{"<a>]]>\xff", 3},
		{"<a></b\xff>", 6},
		{"<a></b>\xff", 3},
		{"<a x='' x\xff", 9},
		{"<a x='' x=\xff", 8},
		{"<?xml\xff", 5},
		{"<a/><?xml\xff", 9},
		{"<a/><?xml \xff", 6},
		{"<a/><b\xff", 4},
		{"<a/><\xff", 5},
		{"<a x=<&", 5},
		{"<a &", 3},
	})
}

// own are limits that a short document reaches.
var own = api.Limits{Depth: 2, Nodes: 3, Attrs: 2, Token: 4}

func TestP203OwnLimits(t *testing.T) {
	for _, r := range []struct {
		doc string
		at  int
	}{
		{"<a><b/><b>abcd</b></a>", -1},
		{"<a><b><c/></b></a>", 6},
		{"<a><b><c></c></b></a>", 6},
		{"<a><b/><b/><b/></a>", 11},
		{"<a><b/><b/><b></b></a>", 11},
		{"<a x='' y=''><b x='' y=''/></a>", -1},
		{"<a x='' y='' z=''/>", 13},
		{"<a><b x='' y='' x=''/></a>", 16},
		{"<abcd/>", -1},
		{"<abcde/>", 1},
		{"<a\u00e9b/>", -1},
		{"<a\u00e9\u00e9/>", 1},
		{"<\u00e9\u00e9/>", -1},
		{"<a><abcde/></a>", 4},
		{"<abcd></abcde>", 8},
		{"<a abcd=''/>", -1},
		{"<a x='' abcde=''/>", 8},
		{"<?abcd abcde?><a/>", -1},
		{"<?abcde?><a/>", 2},
		{"<!--abcdefgh--><a/>", -1},
		{"<?xml version='1.0' standalone='yes'?><a/>", -1},
		{"<a x='1234'/>", -1},
		{"<a x= '12345'/>", 6},
		{"<a x='\r\n\r\n\r\n\r\n'/>", -1},
		{"<a x='\r\n\r\n\r\n\r\n\r\n'/>", 5},
		{"<a x='&lt;&lt;&lt;&lt;'/>", -1},
		{"<a x='&lt;&lt;&lt;&lt;&lt;'/>", 5},
		{"<a x='&#233;&#233;'/>", -1},
		{"<a x='&#233;&#8364;'/>", 5},
		{"<a>abcd</a>", -1},
		{"<a>abcde</a>", 3},
		{"<a>ab<b/>abcd</a>", -1},
		{"<a><!---->ab<!---->cde</a>", 10},
		{"<a>ab<![CDATA[cd]]><?p?></a>", -1},
		{"<a><?p?>&lt;b<![CDATA[cde]]></a>", 8},
		{"<a><![CDATA[]]>abcde</a>", 3},
		{"<a><![CDATA[abcd]]></a>", -1},
		{"<a><![CDATA[abcd]]]></a>", 3},
		{"<a><![CDATA[abcde]]></a>", 3},
		{"<a>\r\n\r\n\r\n\r\n</a>", -1},
		{"<a>\u20ac\u20ac</a>", 3},
		{"<a>&#x20AC;\u00e9</a>", 3},
	} {
		if r.at < 0 {
			checkFault(t, r.doc, own, 0, api.OK)
		} else {
			checkFault(t, r.doc, own, r.at, api.ErrMany)
		}
	}
}

func TestP203FaultsAndLimits(t *testing.T) {
	for _, r := range []struct {
		doc string
		at  int
		err api.Errno
	}{
		{"<a><b>< c/>", 7, api.ErrForm},
		{"<a><b><\xff/>", 7, api.ErrForm},
		{"<a><b><c\xff/>", 6, api.ErrMany},
		{"<a><b><", 7, api.ErrForm},
		{"<a><b><c", 6, api.ErrMany},
		{"<a><b></b><!----><?p?></a>", 0, api.OK},
		{"<a><b/><b/></b>", 11, api.ErrForm},
		{"<a><b/><b/><!x", 11, api.ErrForm},
		{"<a x='' y='' >", 14, api.ErrForm},
		{"<a x='' y='' 1>", 13, api.ErrForm},
		{"<a x='' y='' x>", 13, api.ErrMany},
		{"<a x='' x=''", 8, api.ErrForm},
		{"<a x='' y=''z>", 12, api.ErrForm},
		{"<abcd", 5, api.ErrForm},
		{"<abcd\xff", 5, api.ErrForm},
		{"<abcd$", 5, api.ErrForm},
		{"<abcd\u00d7", 5, api.ErrForm},
		{"<abcde\xff", 1, api.ErrMany},
		{"<a abcd=", 8, api.ErrForm},
		{"<a x='1234", 10, api.ErrForm},
		{"<a x='1234<", 10, api.ErrForm},
		{"<a x='1234&", 11, api.ErrForm},
		{"<a x='1234&x", 10, api.ErrForm},
		{"<a x='1234&lt", 13, api.ErrForm},
		{"<a x='1234&lt;<", 5, api.ErrMany},
		{"<a x='1234\xff", 10, api.ErrForm},
		{"<a x='1234\r", 5, api.ErrMany},
		{"<a>ab]]>", 5, api.ErrForm},
		{"<a>abc]]>", 3, api.ErrMany},
		{"<a>abcd]]>", 3, api.ErrMany},
		{"<a>abcd&x", 7, api.ErrForm},
		{"<a>abcd&gt;]]>", 3, api.ErrMany},
		{"<a>abcd</b>", 7, api.ErrForm},
		{"<a>abcde</b>", 3, api.ErrMany},
		{"<a><![CDATA[abcd]", 17, api.ErrForm},
		{"<a><![CDATA[abcd]]", 18, api.ErrForm},
		{"<a><![CDATA[abcd]\xff", 17, api.ErrForm},
		{"<a><![CDATA[abcd]x", 3, api.ErrMany},
		{"<a><![CDATA[abcd]]]", 3, api.ErrMany},
		{"<a/><b/>", 4, api.ErrForm},
		{"<a/><?abcde", 6, api.ErrMany},
		{"<a></bcdef>", 5, api.ErrMany},
	} {
		checkFault(t, r.doc, own, r.at, r.err)
	}
	checkFault(t, "<a/><b/>", api.Limits{Nodes: 1}, 4, api.ErrForm)
	checkFault(t, "<a><b/></a>", api.Limits{Nodes: 1}, 3, api.ErrMany)
	checkFault(t, "<a><b/></a>", api.Limits{Depth: 1}, 3, api.ErrMany)
	checkFault(t, "<a/>", api.Limits{Depth: 1, Nodes: 1, Attrs: 1, Token: 1, Pos: 1, Rows: 1}, 0, api.OK)
	checkFault(t, "<a>\u00e9</a>", api.Limits{Token: 1}, 3, api.ErrMany)
}

// TestP203ApiLimits asks with no limits, with wrong ones, and with wider ones.
func TestP203ApiLimits(t *testing.T) {
	deep := func(n int) string { return strings.Repeat("<a>", n) + strings.Repeat("</a>", n) }
	wide := func(n int) string { return within(strings.Repeat("<b/>", n-1)) }
	attrs := func(n int) string {
		s := "<a"
		for i := range n {
			s += fmt.Sprintf(" x%d=''", i)
		}
		return s + "/>"
	}
	last := strings.LastIndex(attrs(api.MaxAttrs+1), "x")
	for _, n := range []int{0, -1, -1 << 62, 1 << 20, 1 << 62} {
		l := api.Limits{Depth: n, Nodes: n, Attrs: n, Token: n, Pos: n, Rows: n}
		checkFault(t, deep(api.MaxDepth), l, 0, api.OK)
		checkFault(t, deep(api.MaxDepth+1), l, 3*api.MaxDepth, api.ErrMany)
		checkFault(t, wide(api.MaxNodes), l, 0, api.OK)
		checkFault(t, wide(api.MaxNodes+1), l, 3+4*(api.MaxNodes-1), api.ErrMany)
		checkFault(t, attrs(api.MaxAttrs), l, 0, api.OK)
		checkFault(t, attrs(api.MaxAttrs+1), l, last, api.ErrMany)
		long := strings.Repeat("x", api.MaxToken)
		checkFault(t, "<"+long+"/>", l, 0, api.OK)
		checkFault(t, "<"+long+"x/>", l, 1, api.ErrMany)
		checkFault(t, "<a "+long+"='"+long+"'/>", l, 0, api.OK)
		checkFault(t, "<a x='"+long+"x'/>", l, 5, api.ErrMany)
		checkFault(t, within(long), l, 0, api.OK)
		checkFault(t, within(long+"x"), l, 3, api.ErrMany)
	}
}

func TestP203MaxText(t *testing.T) {
	for _, doc := range []string{"<a/>", "<a/><b/>", "\xff", "<a><a x="} {
		long := doc + strings.Repeat(" ", api.MaxText+1-len(doc))
		if l, at, err := xml.All([]byte(long), api.Limits{}); len(l) != 0 || at != 0 || err != api.ErrMany {
			t.Errorf("%.10q: %s, %d, %v", long, tell(l), at, err)
		}
	}
	checkFault(t, "<a/>"+strings.Repeat(" ", api.MaxText-4), api.Limits{}, 0, api.OK)
	checkFault(t, "<a>"+strings.Repeat(" ", api.MaxText-3), api.Limits{}, 3, api.ErrMany)
	p := xml.New(make([]byte, api.MaxText+1), api.Limits{})
	if at, err := p.Fault(); at != 0 || err != api.OK {
		t.Errorf("ahead of Next: %d, %v", at, err)
	}
}

func TestP203Depth(t *testing.T) {
	p := xml.New([]byte("<a>x<b>y<c/></b><d/>z</a>"), api.Limits{})
	want := []struct{ kind, depth, most int }{
		{xml.Start, 1, 1}, {xml.Text, 1, 1}, {xml.Start, 2, 2}, {xml.Text, 2, 2}, {xml.Start, 3, 3}, {xml.End, 2, 3},
		{xml.End, 1, 3}, {xml.Start, 2, 3}, {xml.End, 1, 3}, {xml.Text, 1, 3}, {xml.End, 0, 3}, {0, 0, 3}, {0, 0, 3},
	}
	if p.Depth() != 0 || p.Most() != 0 {
		t.Errorf("at first: %d, %d", p.Depth(), p.Most())
	}
	for i, w := range want {
		e, ok := p.Next()
		if e.Kind != w.kind || ok != (w.kind != 0) || p.Depth() != w.depth || p.Most() != w.most {
			t.Errorf("%d: %+v, %v, %d, %d; want %+v", i, e, ok, p.Depth(), p.Most(), w)
		}
	}
	p = xml.New([]byte("<a><b>x<c"), api.Limits{})
	for range 4 {
		p.Next()
	}
	if p.Depth() != 2 || p.Most() != 2 {
		t.Errorf("behind a fault: %d, %d", p.Depth(), p.Most())
	}
}

func TestP203WholeEvents(t *testing.T) {
	for _, r := range []struct{ doc, want string }{
		{"<a", ""},
		{"<a x='1'", ""},
		{"<a/", ""},
		{"<a/>x", "0<a 2/a"},
		{"<a>", "0<a"},
		{"<a>x", "0<a"},
		{"<a>x&y", "0<a"},
		{"<a>x<", "0<a"},
		{"<a>x<b", "0<a"},
		{"<a>x<b/", "0<a"},
		{"<a>x<b/>", `0<a 3"x" 4<b 6/b`},
		{"<a>x<b>", `0<a 3"x" 4<b`},
		{"<a>x<!-- -- ", "0<a"},
		{"<a>x</a", "0<a"},
		{"<a>x</b>", "0<a"},
		{"<a>x<b y=1>", "0<a"},
		{"<a>x</a><", `0<a 3"x" 4/a`},
		{"<a>abcde</a>", "0<a"},
		{"<a>abcd<b><c/>", `0<a 3"abcd" 7<b`},
	} {
		if l, _, err := xml.All([]byte(r.doc), own); err == api.OK || tell(l) != r.want {
			t.Errorf("%q: %s, %v; want %s", r.doc, tell(l), err, r.want)
		}
	}
}

func TestP204Escape(t *testing.T) {
	for _, r := range []struct{ s, text, value string }{
		{"", "", ""},
		{"abc \u00e9\u20ac\U0001F600", "abc \u00e9\u20ac\U0001F600", "abc \u00e9\u20ac\U0001F600"},
		{"<a b=\"c\">", "&lt;a b=\"c\"&gt;", "&lt;a b=&quot;c&quot;&gt;"},
		{"&lt;", "&amp;lt;", "&amp;lt;"},
		{"]]>", "]]&gt;", "]]&gt;"},
		{"\t\n\r", "\t\n&#xD;", "&#x9;&#xA;&#xD;"},
		{"'\"'", "'\"'", "'&quot;'"},
	} {
		if text, value := xml.Escape(r.s, false), xml.Escape(r.s, true); text != r.text || value != r.value {
			t.Errorf("%q: %q, %q", r.s, text, value)
		}
	}
}

func TestP204EscapeIsReadBack(t *testing.T) {
	for r := rune(1); r <= 0x10FFFF; r++ {
		if r > 0x180 && r < 0x10FF00 && r%251 != 0 || r < ' ' && r != '\t' && r != '\n' && r != '\r' || r >= 0xD800 && r <= 0xDFFF || r == 0xFFFE || r == 0xFFFF {
			continue
		}
		for _, s := range []string{string(r), string(r) + string(r), "]]" + string(r), "\r" + string(r) + "\n"} {
			doc := "<a x=\"" + xml.Escape(s, true) + "\">" + xml.Escape(s, false) + "</a>"
			l, at, err := xml.All([]byte(doc), api.Limits{})
			if err != api.OK || len(l) != 3 || l[0].Attrs[0].Value != s || l[1].Text != s {
				t.Fatalf("%q: %s, %d, %v", doc, tell(l), at, err)
			}
		}
	}
	// Of no Chars, only that it ends well.
	xml.Escape("\x00\xff<\xed\xa0\x80", true)
}

func TestP2NothingIsKept(t *testing.T) {
	doc := "<a x='1'>y<b/></a>"
	room := []byte(doc + "<spare>")
	b := room[:len(doc)]
	want, _, _ := xml.All(b, api.Limits{})
	if string(room) != doc+"<spare>" {
		t.Errorf("changed: %q", room)
	}
	p := xml.New(b, api.Limits{})
	var got []xml.Event
	for e, ok := p.Next(); ok; e, ok = p.Next() {
		copy(room, strings.Repeat("#", len(room)))
		copied := e
		copied.Attrs = slices.Clone(e.Attrs)
		got = append(got, copied)
		for i := range e.Attrs[:cap(e.Attrs)] {
			e.Attrs[:cap(e.Attrs)][i] = xml.Attr{Name: "spoilt"}
		}
	}
	if tell(got) != tell(want) {
		t.Errorf("%s; want %s", tell(got), tell(want))
	}
}

func TestP7ParsersAreApart(t *testing.T) {
	p, q := xml.New([]byte("<a><b/></a>"), api.Limits{}), xml.New([]byte("<c>x"), api.Limits{})
	p.Next()
	q.Next()
	q.Next()
	e, ok := p.Next()
	if !ok || e.Name != "b" || p.Depth() != 2 || q.Depth() != 1 {
		t.Errorf("%+v, %v, %d, %d", e, ok, p.Depth(), q.Depth())
	}
}

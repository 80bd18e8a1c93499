package xmlns_test

import (
	"fmt"
	"maps"
	"math"
	"math/rand/v2"
	"slices"
	"strconv"
	"strings"
	"sync"
	"testing"

	"feedvault/api"
	"feedvault/xmlns"
	"feedvault/xmltree"
)

const xml = "http://www.w3.org/XML/1998/namespace"

// element, data and attr are nodes and an attribute of a resolved tree, and with gives an element attributes.
func element(space, name string, kids ...api.Node) api.Node {
	return api.Node{Space: space, Name: name, Kids: kids}
}

func data(s string) api.Node {
	return api.Node{Kind: api.CharData, Text: s}
}

func attr(space, name, value string) api.Attr {
	return api.Attr{Space: space, Name: name, Value: value}
}

func with(n api.Node, attrs ...api.Attr) api.Node {
	n.Attrs = attrs
	return n
}

func parse(t *testing.T, s string) api.Node {
	t.Helper()
	n, at, e := xmltree.Parse(s)
	if e != api.OK {
		t.Fatalf("Parse(%.300q): %d, %v", s, at, e)
	}
	return n
}

// show returns the beginning of a node as text.
func show(n api.Node) string {
	s := fmt.Sprintf("%+v", n)
	return s[:min(len(s), 1000)]
}

// wantTree checks the result for a document, without the offsets.
func wantTree(t *testing.T, s string, want api.Node) {
	t.Helper()
	got, at, e := xmlns.Resolve(parse(t, s))
	if !xmltree.Equal(got, want) || at != 0 || e != api.OK {
		t.Errorf("Resolve(%.300q) = %s, %d, %v; want %s", s, show(got), at, e, show(want))
	}
}

// wantError checks that a document is rejected at the offset at which it has a bar.
func wantError(t *testing.T, s string, want api.Errno) {
	t.Helper()
	before, after, _ := strings.Cut(s, "|")
	got, at, e := xmlns.Resolve(parse(t, before+after))
	if !same(got, api.Node{}) || at != len(before) || e != want {
		t.Errorf("Resolve(%.300q) = %s, %d, %v; want %d, %v", s, show(got), at, e, len(before), want)
	}
}

// compare compares Resolve with its definition, for each element of a tree, and with other offsets. It returns the error for the tree.
func compare(t *testing.T, n api.Node) api.Errno {
	t.Helper()
	for _, p := range preorder(nil, n) {
		for _, n := range []api.Node{p.element(), moved(p.element(), math.MinInt), moved(p.element(), 1)} {
			before := clone(n)
			want, wantAt, wantE := resolve(n)
			got, at, e := xmlns.Resolve(n)
			if !same(got, want) || at != wantAt || e != wantE {
				t.Errorf("Resolve(%+v) = %+v, %d, %v; want %+v, %d, %v", n, got, at, e, want, wantAt, wantE)
			}
			if !same(n, before) {
				t.Errorf("%+v became %+v", before, n)
			}
		}
	}
	_, _, e := resolve(n)
	return e
}

// moved returns a node with other offsets, which have neither the order nor the size of those of a document.
func moved(n api.Node, by int) api.Node {
	n = clone(n)
	n.At = by
	for i := range n.Attrs {
		n.Attrs[i].At = by - i - 1
	}
	for i, k := range n.Kids {
		n.Kids[i] = moved(k, by*3-i)
	}
	return n
}

// every calls f with a string and with all that extend it by at most n of the parts.
func every(s string, parts []string, n int, f func(string)) {
	f(s)
	if n > 0 {
		for _, p := range parts {
			every(s+p, parts, n-1, f)
		}
	}
}

func wantSplit(t *testing.T, s, prefix, local string, ok bool) {
	t.Helper()
	if p, l, o := xmlns.Split(s); p != prefix || l != local || o != ok {
		t.Errorf("Split(%q) = %q, %q, %v; want %q, %q, %v", s, p, l, o, prefix, local, ok)
	}
}

func compareSplit(t *testing.T, s string) {
	t.Helper()
	prefix, local, ok := split(s)
	wantSplit(t, s, prefix, local, ok)
}

// P8.1: qualified names, and strings that are none.
func TestSplit(t *testing.T) {
	for s, want := range map[string][2]string{
		"a": {"", "a"}, "p:a": {"p", "a"}, "a-1": {"", "a-1"}, "x-1.:_": {"x-1.", "_"}, "_:_": {"_", "_"}, "a:a": {"a", "a"},
		"xmlns": {"", "xmlns"}, "xmlns:p": {"xmlns", "p"}, "p:xmlns": {"p", "xmlns"}, "xmlns:xmlns": {"xmlns", "xmlns"}, "xml": {"", "xml"}, "xml:lang": {"xml", "lang"},
		"é": {"", "é"}, "é:ü": {"é", "ü"}, "\uFFFD:\uFFFD": {"\uFFFD", "\uFFFD"}, "\U00010000:a\u0300": {"\U00010000", "a\u0300"}, "a·:b‿": {"a·", "b‿"}, "名:前": {"名", "前"}, "a：b": {"", "a：b"},
	} {
		wantSplit(t, s, want[0], want[1], true)
	}
	for _, s := range []string{
		"", ":", "::", ":::", ":a", "a:", "p::a", ":p:a", "p:a:", "a:b:c", "xmlns:a:b",
		"1", "1a", "1:a", "a:1", "-a", "a:-b", ".:a", "a:.", " ", "a ", " a", "a b", "a :b", "a: b", "a:b ", "\n", "a\x00", "\x00:a", "a/b", "a=b", "{u}a", "<a", "&:a",
		"·", "a:·", "\u0300:a", "a:\u2040", "×", "a:÷", "p:\u037E", "\U000F0000:a",
		"\xFF", "a\xFF", "\xFF:a", "a:\xFF", "a\xC3", "\xC3:a", "a:\xC3\xA9\xA9", "\xC0\xBA", "a\xC0\xBAb", "\xED\xA0\x80", "a:\xF4\x90\x80\x80", "\xE2\x82:\xAC",
	} {
		wantSplit(t, s, "", "", false)
	}
}

// P8.1: all short strings of awkward parts, and all runes and bytes in every place.
func TestSplitEverything(t *testing.T) {
	every("", []string{"a", "xmlns", "é", "1", "-", "·", ":", " ", "\x00", "\uFFFD", "\xC3", "\xA9", "\xFF"}, 4, func(s string) { compareSplit(t, s) })
	every("", []string{"a", "1", ":"}, 8, func(s string) { compareSplit(t, s) })
	around := []func(string) string{
		func(s string) string { return s },
		func(s string) string { return "a" + s + ":b" },
		func(s string) string { return "a:" + s },
		func(s string) string { return s + ":" + s },
	}
	for _, f := range around {
		for r := range rune(0x110000) {
			compareSplit(t, f(string(r)))
		}
		for b := range 256 {
			compareSplit(t, f(string([]byte{byte(b)})))
		}
	}
}

// P8.3: ordinary documents, and the edge cases of declarations and of names.
func TestDocuments(t *testing.T) {
	a, b := element("", "a"), element("", "b")
	for s, want := range map[string]api.Node{
		// Elements and attributes with and without a prefix.
		"<a/>":                                                            a,
		"<a b='1'/>":                                                      with(a, attr("", "b", "1")),
		"<a b='1' c=''/>":                                                 with(a, attr("", "b", "1"), attr("", "c", "")),
		"<p:a xmlns:p='u' b='1' p:c='2'/>":                                with(element("u", "a"), attr("", "b", "1"), attr("u", "c", "2")),
		"<a xmlns:p='u' p:b='1' b='2'/>":                                  with(a, attr("u", "b", "1"), attr("", "b", "2")),
		"<é:ü xmlns:é='ö' é:ä='ß'/>":                                      with(element("ö", "ü"), attr("ö", "ä", "ß")),
		"<p:a xmlns:p='u'/>":                                              element("u", "a"),
		"<p:a xmlns:p=' '/>":                                              element(" ", "a"),
		"<p:a xmlns:p='&lt;\n&#10;'/>":                                    element("< \n", "a"),
		"<a:a xmlns:a='a' a:a='a' a='a'/>":                                with(element("a", "a"), attr("a", "a", "a"), attr("", "a", "a")),
		"<p:a xmlns:p='u' xmlns:q='v' q:b='1' p:b='2'/>":                  with(element("u", "a"), attr("v", "b", "1"), attr("u", "b", "2")),
		"<p:a xmlns:p='u' xmlns:P='U' P:b='1' p:b='2' p:B='3'/>":          with(element("u", "a"), attr("U", "b", "1"), attr("u", "b", "2"), attr("u", "B", "3")),
		"<p:a xmlns:p='u' xmlns:pp='v' pp:b='1'/>":                        with(element("u", "a"), attr("v", "b", "1")),
		"<a xmlns:p='u ' xmlns:q='u' p:b='1' q:b='2'/>":                   with(a, attr("u ", "b", "1"), attr("u", "b", "2")),
		"<a xmlns:p='u' xmlns:q='u' p:b='1' q:c='2'><p:d/><q:d/></a>":     with(element("", "a", element("u", "d"), element("u", "d")), attr("u", "b", "1"), attr("u", "c", "2")),
		"<a xmlns:p='u' xmlns:q='ub' p:bc='1' q:c='2'/>":                  with(a, attr("u", "bc", "1"), attr("ub", "c", "2")),
		"<p:a p:c='2' b='1' xmlns:p='u'/>":                                with(element("u", "a"), attr("u", "c", "2"), attr("", "b", "1")),
		"<a c='1' xmlns:p='u' b='2' xmlns='v' p:d='3' xmlns:q='w' e=''/>": with(element("v", "a"), attr("", "c", "1"), attr("", "b", "2"), attr("u", "d", "3"), attr("", "e", "")),

		// Default namespaces.
		"<a xmlns='u'/>":                                           element("u", "a"),
		"<a xmlns=''/>":                                            a,
		"<a xmlns='u' b='1'/>":                                     with(element("u", "a"), attr("", "b", "1")),
		"<a b='1' xmlns='u'/>":                                     with(element("u", "a"), attr("", "b", "1")),
		"<a xmlns='u' xmlns:p='u' p:b='1' b='2'/>":                 with(element("u", "a"), attr("u", "b", "1"), attr("", "b", "2")),
		"<p:a xmlns='u' xmlns:p='v'><b/></p:a>":                    element("v", "a", element("u", "b")),
		"<a xmlns='u'><b/></a>":                                    element("u", "a", element("u", "b")),
		"<a xmlns='u'><b><c/></b></a>":                             element("u", "a", element("u", "b", element("u", "c"))),
		"<a xmlns='u'><b xmlns='v'><c/></b><d/></a>":               element("u", "a", element("v", "b", element("v", "c")), element("u", "d")),
		"<a xmlns='u'><b xmlns=''><c/></b><d/></a>":                element("u", "a", element("", "b", element("", "c")), element("u", "d")),
		"<a xmlns='u'><b xmlns=''><c xmlns='v'/><e/></b></a>":      element("u", "a", element("", "b", element("v", "c"), element("", "e"))),
		"<a><b xmlns='u'/><b/></a>":                                element("", "a", element("u", "b"), b),
		"<a xmlns='u'><b xmlns='u'/></a>":                          element("u", "a", element("u", "b")),
		"<xmlns xmlns='xmlns'><xml/></xmlns>":                      element("xmlns", "xmlns", element("xmlns", "xml")),
		"<xml xml='1' XMLNS='2' xmlnsp='3'/>":                      with(element("", "xml"), attr("", "xml", "1"), attr("", "XMLNS", "2"), attr("", "xmlnsp", "3")),
		"<p:xmlns xmlns:p='u' p:xmlns='1' xmlns='v' p:xml='2'/>":   with(element("u", "xmlns"), attr("u", "xmlns", "1"), attr("u", "xml", "2")),
		"<xmlnsp:a xmlns:xmlnsp='u' xmlns:XML='v' XML:xmlns='1'/>": with(element("u", "a"), attr("v", "xmlns", "1")),

		// Prefixes that are declared around an element, again within, or on a sibling.
		"<a xmlns:p='u'><p:b/></a>":                                                                element("", "a", element("u", "b")),
		"<a xmlns:p='u'><b><c p:d='1'/></b></a>":                                                   element("", "a", element("", "b", with(element("", "c"), attr("u", "d", "1")))),
		"<p:a xmlns:p='u'><p:b xmlns:p='v' p:c='1'/><p:d/></p:a>":                                  element("u", "a", with(element("v", "b"), attr("v", "c", "1")), element("u", "d")),
		"<p:a xmlns:p='u'><b xmlns:p='v'><p:c/></b><p:d/></p:a>":                                   element("u", "a", element("", "b", element("v", "c")), element("u", "d")),
		"<a><p:b xmlns:p='u'/><p:b xmlns:p='v'/></a>":                                              element("", "a", element("u", "b"), element("v", "b")),
		"<a xmlns:p='u'><b xmlns:q='v'><p:c q:d='1'/></b><p:e/></a>":                               element("", "a", element("", "b", with(element("u", "c"), attr("v", "d", "1"))), element("u", "e")),
		"<a xmlns:p='u'><b xmlns='v'><p:c/><d/></b></a>":                                           element("", "a", element("v", "b", element("u", "c"), element("v", "d"))),
		"<a xmlns:p='u' xmlns:q='v'><b xmlns:p='v' xmlns:q='u' p:c='1' q:c='2'/><p:d q:e=''/></a>": element("", "a", with(b, attr("v", "c", "1"), attr("u", "c", "2")), with(element("u", "d"), attr("v", "e", ""))),
		"<a xmlns:p='u' xmlns:q='u'><b xmlns:q='v' p:c='1' q:c='2'/></a>":                          element("", "a", with(b, attr("u", "c", "1"), attr("v", "c", "2"))),

		// The prefix xml, and other prefixes for its namespace.
		"<xml:a/>":                                       element(xml, "a"),
		"<xml:xml xml:lang='1' lang='2'/>":               with(element(xml, "xml"), attr(xml, "lang", "1"), attr("", "lang", "2")),
		"<a xmlns='u'><b><xml:c xml:d='1'/></b></a>":     element("u", "a", element("u", "b", with(element(xml, "c"), attr(xml, "d", "1")))),
		"<p:a xmlns:p='" + xml + "' p:b='1' xml:c='2'/>": with(element(xml, "a"), attr(xml, "b", "1"), attr(xml, "c", "2")),
		"<a xmlns='" + xml + "' b='1' xml:b='2'/>":       with(element(xml, "a"), attr("", "b", "1"), attr(xml, "b", "2")),
		"<a xmlns='http://www.w3.org/2000/xmlns/' xmlns:p='http://www.w3.org/2000/xmlns/' p:b=''/>": with(element("http://www.w3.org/2000/xmlns/", "a"), attr("http://www.w3.org/2000/xmlns/", "b", "")),

		// Character data, and elements without attributes or with declarations alone.
		"<a>x</a>": element("", "a", data("x")),
		"<p:a xmlns:p='u'>x<p:b>y</p:b><!---->z</p:a>":     element("u", "a", data("x"), element("u", "b", data("y")), data("z")),
		"<a xmlns:p='u' xmlns:q='v' xmlns='w'> <b/>\n</a>": element("w", "a", data(" "), element("w", "b"), data("\n")),
		"<a>p:b<b>xmlns:p='u'</b></a>":                     element("", "a", data("p:b"), element("", "b", data("xmlns:p='u'"))),
	} {
		wantTree(t, s, want)
		compare(t, parse(t, s))
		wantTree(t, "<r xmlns:p='r' xmlns:q='r'><s/>"+s+"</r>", element("", "r", element("", "s"), want))
		compare(t, parse(t, "<p:r xmlns='r' xmlns:p='u' xmlns:q='u'>"+s+"x"+s+"</p:r>"))
	}
}

// P8.3: offsets are copied with everything else, of whatever size they are.
func TestOffsets(t *testing.T) {
	n := parse(t, "<p:a b='1' xmlns:p='u' p:c='2'>x<d xmlns='v'/>y</p:a>")
	got, at, e := xmlns.Resolve(n)
	want := api.Node{Space: "u", Name: "a", Attrs: []api.Attr{{Name: "b", Value: "1", At: 5}, {Space: "u", Name: "c", Value: "2", At: 23}}, Kids: []api.Node{
		{Kind: api.CharData, Text: "x", At: 31}, {Space: "v", Name: "d", At: 32}, {Kind: api.CharData, Text: "y", At: 46},
	}}
	if !same(got, want) || at != 0 || e != api.OK {
		t.Errorf("Resolve = %+v, %d, %v; want %+v", got, at, e, want)
	}
	for _, by := range []int{math.MinInt, -1, 0, 1, 1 << 40, math.MaxInt} {
		m := moved(n, by)
		got, at, e := xmlns.Resolve(m)
		if got.At != by || got.Attrs[0].At != m.Attrs[0].At || got.Attrs[1].At != m.Attrs[2].At || got.Kids[0].At != m.Kids[0].At || got.Kids[1].At != m.Kids[1].At || at != 0 || e != api.OK {
			t.Errorf("Resolve(%+v) = %+v, %d, %v", m, got, at, e)
		}
		for i, bad := range []string{"<a:b:c/>", "<x:a b='1'/>", "<a x:b='1'/>", "<a xmlns:p=''/>", "<a xml:b='1' xmlns:p='" + xml + "' p:b='2'/>"} {
			m := moved(parse(t, bad), by)
			want := m.At
			if i > 1 {
				want = m.Attrs[len(m.Attrs)-1].At
			}
			if _, at, e := xmlns.Resolve(m); at != want || e == api.OK {
				t.Errorf("Resolve(%+v) = %d, %v; want %d", m, at, e, want)
			}
		}
	}
}

// wrong are start tags with an error at the bar, where the prefix x is not declared. They are in the order of the checks.
var wrong = []struct {
	tag string
	e   api.Errno
}{
	{"|:a", api.ErrPrefix}, {"|a:", api.ErrPrefix}, {"|:", api.ErrPrefix}, {"|a:b:c", api.ErrPrefix}, {"|a::b", api.ErrPrefix}, {"|a:1", api.ErrPrefix}, {"|xml:a:b", api.ErrPrefix}, {"|xml:-", api.ErrPrefix}, {"|é:·", api.ErrPrefix},
	{"|xmlns:a", api.ErrPrefix}, {"|xmlns:xmlns", api.ErrPrefix}, {"|xmlns:a xmlns:a='u'", api.ErrPrefix},
	{"a |:b=''", api.ErrPrefix}, {"a |b:=''", api.ErrPrefix}, {"a |:=''", api.ErrPrefix}, {"a |b:c:d='1'", api.ErrPrefix}, {"a |xml::b=''", api.ErrPrefix}, {"a |b:2=''", api.ErrPrefix}, {"a |xmlns:=''", api.ErrPrefix}, {"a |xmlns:='u'", api.ErrPrefix}, {"a |:xmlns='u'", api.ErrPrefix}, {"a |xmlns:b:c='u'", api.ErrPrefix}, {"a |xmlns:1='u'", api.ErrPrefix},
	{"a |xmlns:xml='u'", api.ErrPrefix}, {"a |xmlns:xml='" + xml + "'", api.ErrPrefix}, {"a |xmlns:xml=''", api.ErrPrefix}, {"a |xmlns:xmlns='u'", api.ErrPrefix}, {"a |xmlns:xmlns=''", api.ErrPrefix}, {"a |xmlns:xmlns='http://www.w3.org/2000/xmlns/'", api.ErrPrefix},
	{"a |xmlns:b=''", api.ErrPrefix}, {"a xmlns='' |xmlns:b=''", api.ErrPrefix}, {"b:a |xmlns:b=''", api.ErrPrefix}, {"a b='' xmlns:c='u' |xmlns:d='' xmlns:e=''", api.ErrPrefix},
	{"|x:a", api.ErrPrefix}, {"|x:a xmlns='u' xmlns:y='u'", api.ErrPrefix}, {"|x:a x='u' xmlns:xx='u' xmlns:X='u'", api.ErrPrefix}, {"|x:x xml:x='u' xmlns='x'", api.ErrPrefix}, {"|XML:a", api.ErrPrefix}, {"|XMLNS:a", api.ErrPrefix},
	{"a |x:b=''", api.ErrPrefix}, {"a xmlns='u' |x:b=''", api.ErrPrefix}, {"a b='' |x:b='' x:c='' xmlns:y='u'", api.ErrPrefix}, {"xml:a xml:b='' |x:b=''", api.ErrPrefix}, {"a |XML:lang=''", api.ErrPrefix}, {"a |x:xmlns='u'", api.ErrPrefix},
	{"a xmlns:b='u' xmlns:c='u' b:d='' |c:d=''", api.ErrDuplicate}, {"a b:d='1' |c:d='2' xmlns:b='u' xmlns:c='u'", api.ErrDuplicate}, {"a xmlns:b='u' b:d='' d='' e='' |c:d='' xmlns:c='u'", api.ErrDuplicate}, {"b:d xmlns='u' xmlns:b='u' xmlns:c='u' c:d='' |b:d=''", api.ErrDuplicate},
	{"a xml:d='' xmlns:b='" + xml + "' |b:d=''", api.ErrDuplicate}, {"a xmlns:b='" + xml + "' b:d='' |xml:d=''", api.ErrDuplicate}, {"a xmlns:b='u' xmlns:c='u' xmlns:e='u' b:d='' |c:d='' e:d=''", api.ErrDuplicate}, {"a xmlns:b='u' xmlns:c='u' b:xmlns='1' |c:xmlns='2'", api.ErrDuplicate},
}

// document returns a document of an element with a start tag around other elements.
func document(tag, inside string) string {
	name, _, _ := strings.Cut(strings.ReplaceAll(tag, "|", ""), " ")
	return "<" + tag + ">" + inside + "</" + name + ">"
}

// atElement moves a bar at the name of an element to its start, where its offset is.
func atElement(s string) string { return strings.ReplaceAll(s, "<|", "|<") }

// P8.2: each error, at the root and deep within.
func TestErrors(t *testing.T) {
	for _, c := range wrong {
		for _, inside := range []string{"", "x", "<b/>"} {
			s := document(c.tag, inside)
			wantError(t, atElement(s), c.e)
			wantError(t, atElement("<r>"+s+"</r>"), c.e)
			wantError(t, atElement("<r xmlns='r' s=''>t<s xmlns:x='u'/>"+s+"</r>"), c.e)
			wantError(t, atElement("<r><s/><s><t xmlns:t='r'>"+s+"</t></s></r>"), c.e)
			wantError(t, atElement(strings.Repeat("<r>", 98)+s+strings.Repeat("</r>", 98)), c.e)
			compare(t, parse(t, strings.ReplaceAll("<x:r xmlns:x='u'>"+s+"</x:r>", "|", "")))
		}
	}
	// A prefix is declared only within its element.
	for _, s := range []string{"<a><b xmlns:p='u'/>|<p:c/></a>", "<a><b xmlns:p='u'><p:c/></b><b |p:c=''/></a>", "<a>|<p:b/><c xmlns:p='u'/></a>", "|<p:a><b xmlns:p='u'/></p:a>", "<a |p:b=''><p:c xmlns:p='u'/></a>", "<a><b><c xmlns:p='u'/></b>|<p:d/></a>"} {
		wantError(t, s, api.ErrPrefix)
	}
	// A prefix cannot be declared empty again, unlike the default namespace.
	wantError(t, "<a xmlns:p='u'><b |xmlns:p=''/></a>", api.ErrPrefix)
	wantError(t, "<p:a xmlns:p='u' xmlns='u'><p:b xmlns='' |xmlns:p=''/></p:a>", api.ErrPrefix)
	// Declarations around the element count for duplicates.
	wantError(t, "<a xmlns:p='u'><b xmlns:q='u' p:c='' |q:c=''/></a>", api.ErrDuplicate)
	wantError(t, "<a xmlns:p='u' xmlns:q='u'><b><c q:d='' |p:d=''/></b></a>", api.ErrDuplicate)
	wantError(t, "<a xmlns:p='u' xmlns:q='v' p:b='' q:b=''><c xmlns:q='u' p:b='' |q:b=''/></a>", api.ErrDuplicate)
}

// P8.2: the checks of one element, in their order: of two errors, the first is that of the check that comes first, and of the attribute that comes first within a check.
func TestOrderOfChecks(t *testing.T) {
	for _, s := range []string{
		"|<a:b:c :b='' xmlns:xml='u' x:d=''/>", "|<xmlns:a :b=''/>", "|<xmlns:a x:b=''/>", "|<a: xmlns:b=''/>", "|<xmlns:a xmlns:b='u' xmlns:c='u' b:d='' c:d=''/>",
		"<x:a |:b=''/>", "<x:a |xmlns:xml='u'/>", "<x:a |xmlns:xmlns='u'/>", "<x:a b='' |xmlns:c=''/>", "<x:a |xmlns:x=''/>",
		"<a x:b='' |:b=''/>", "<a x:b='' |xmlns:xml='u'/>", "<a x:b='' |xmlns:xmlns='u'/>", "<a x:b='' |xmlns:x=''/>", "<a x:b='' c='' |xmlns:c='' d:=''/>", "<x:a x:b='' |b:c:d=''/>",
		"<a |:b='' xmlns:c=''/>", "<a |xmlns:c='' :b=''/>", "<a |xmlns:xml='u' b:=''/>", "<a |b:='' xmlns:xmlns='u'/>", "<a |xmlns:c='' xmlns:xml='u'/>",
		"<a xmlns:b='u' xmlns:c='u' b:d='' c:d='' |:e=''/>", "<a b:d='' c:d='' xmlns:b='u' xmlns:c='u' |xmlns:e=''/>",
		"|<x:a x:b=''/>", "|<x:a xmlns:b='u' xmlns:c='u' b:d='' c:d=''/>", "|<x:a y:b='' xmlns:y='u'/>", "|<x:a y:b='' z:b=''/>",
		"<a |x:b='' y:b=''/>", "<a |x:b='' xmlns:b='u' xmlns:c='u' b:d='' c:d=''/>", "<a xmlns:b='u' xmlns:c='u' b:d='' |x:d='' c:d=''/>",
	} {
		wantError(t, s, api.ErrPrefix)
	}
	for _, s := range []string{"<a xmlns:b='u' xmlns:c='u' b:d='' |c:d='' x:d=''/>", "<a xmlns:b='u' xmlns:c='u' b:d='' b:e='' |c:e='' c:d=''/>", "<a b:d='' c:e='' |c:d='' b:e='' xmlns:b='u' xmlns:c='u'/>"} {
		wantError(t, s, api.ErrDuplicate)
	}
}

// P8.2: of two elements with errors, the one that starts first counts.
func TestOrderOfElements(t *testing.T) {
	for _, c := range wrong {
		for _, other := range wrong {
			other := strings.ReplaceAll(other.tag, "|", "")
			inside := document(other, "")
			first := document(c.tag, "")
			for _, s := range []string{
				document(c.tag, inside), document(c.tag, "x<r>"+inside+"</r>"), "<r>" + first + inside + "</r>", "<r>" + first + "x<r/>" + inside + "</r>",
				"<r><r>" + first + "</r>" + inside + "</r>", "<r>" + first + "<r>" + inside + "</r></r>", "<r><r><r>" + first + "</r></r><r><r>" + inside + "</r></r></r>",
			} {
				wantError(t, atElement(s), c.e)
			}
		}
	}
}

// P8.2, P8.3: all sequences of a few attributes on elements with all kinds of names, around an element that uses the declarations.
func TestEveryElement(t *testing.T) {
	attrs := []string{" b='1'", " p:b='2'", " q:b='3'", " xml:b='4'", " xmlns='u'", " xmlns=''", " xmlns:p='u'", " xmlns:p='v'", " xmlns:q='u'", " xmlns:q='" + xml + "'", " xmlns:p=''", " xmlns:xml='u'", " xmlns:xmlns='u'", " b:='5'", " p:b:c='6'"}
	right, errors := 0, 0
	for _, name := range []string{"a", "p:a", "q:a", "xml:a", "xmlns:a", "xmlns", ":a"} {
		every(name, attrs, 3, func(tag string) {
			n, _, e := xmltree.Parse(document(tag, "<p:c p:b='7' q:b='8'/>x<c b='9'/>"))
			if e != api.OK {
				return
			}
			if compare(t, n) == api.OK {
				right++
			} else {
				errors++
			}
		})
	}
	if right < 100 || errors < 1000 {
		t.Errorf("%d documents are right, %d are not", right, errors)
	}
}

// P8.2, P8.3: declarations on three elements within each other and on a sibling.
func TestEveryScope(t *testing.T) {
	declarations := []string{"", " xmlns='u'", " xmlns='v'", " xmlns=''", " xmlns:p='u'", " xmlns:p='v'", " xmlns:q='u' xmlns='u'", " xmlns:p='v' xmlns:q='v'", " xmlns:q='w' d=''"}
	uses := []string{"", " p:b=''", " q:b='' b=''", " q:b='' p:b=''"}
	for _, name := range []string{"a", "p:a", "q:a"} {
		every("", []string{"0", "1", "2", "3", "4", "5", "6", "7", "8"}, 3, func(s string) {
			var tags [3]string
			for i := range s {
				tags[i] = declarations[s[i]-'0']
			}
			for _, use := range uses {
				inner := document(name+use, "<b"+tags[2]+"/>")
				sibling := document("c"+tags[2], document(name, ""))
				compare(t, parse(t, "<a"+tags[0]+">"+document("b"+tags[1]+use, inner+sibling+inner)+inner+"</a>"))
			}
		})
	}
}

// samples are documents with all kinds of names.
var samples = []string{
	"<a xmlns='u' b='1' xmlns:p='v' p:c='2' xml:d='3'>x<p:e/><f xmlns=''><g/></f><h xmlns:p='w'><p:i/></h><p:j/></a>",
	"<p:a xmlns:p='u' b='1' p:c='2'/>", "<a p:b='1' q:b='2' xmlns:p='u' xmlns:q='v'><q:c xmlns:q='u' q:d=''/></a>", "<é:a xmlns:é='ü'>y</é:a>", "<xml:a xml:b='1' b='2'/>", "<p:a/>", "<a xmlns:p='u' xmlns:q='u' p:b='' q:b=''/>",
}

// P8.2, P8.3: any byte in place of any other one, and any part left out or doubled.
func TestEveryChange(t *testing.T) {
	right, errors := 0, 0
	ask := func(s string) {
		if n, _, e := xmltree.Parse(s); e == api.OK {
			if compare(t, n) == api.OK {
				right++
			} else {
				errors++
			}
		}
	}
	for _, s := range samples {
		for i := range len(s) + 1 {
			for b := range 128 {
				ask(s[:i] + string([]byte{byte(b)}) + s[i:])
				if i < len(s) {
					ask(s[:i] + string([]byte{byte(b)}) + s[i+1:])
				}
			}
			for j := i; j <= len(s); j++ {
				ask(s[:i] + s[j:])
				ask(s[:j] + s[i:])
			}
		}
	}
	if right < 1000 || errors < 1000 {
		t.Errorf("%d documents are right, %d are not", right, errors)
	}
}

// P8.4: documents whose prefixes P and Q are renamed.
func TestRenamedPrefixes(t *testing.T) {
	names := []string{"p", "q", "a", "b", "u", "é", "_", "x-1.", "XML", "xmlx", "xmln", "xmlnsx", "Xmlns", strings.Repeat("p", 1000)}
	for _, s := range []string{
		"<P:a xmlns:P='u' b='1' P:c='2'/>",
		"<P:a xmlns:P='u'><P:b xml:c='3'/><d/>x<P:e xmlns:P='v' P:f=''/><P:g/></P:a>",
		"<a xmlns='u' xmlns:P='v' P:b='1'><P:c xmlns:Q='w' Q:d='2' P:d='3'/><e P:f=''/></a>",
		"<Q:a P:b='1' Q:b='2' b='3' xmlns:P='u' xmlns:Q='v'><P:b><Q:b xmlns:Q='u' Q:c=''/></P:b></Q:a>",
		"<a><P:b xmlns:P='u' xmlns:Q='u' Q:c='' P:d=''/><P:b xmlns:P='v'/></a>",
		"<P:P xmlns:P='P' P:Q='Q'/>",
	} {
		rename := func(p, q string) string {
			return strings.NewReplacer("xmlns:P=", "xmlns:"+p+"=", "xmlns:Q=", "xmlns:"+q+"=", "P:", p+":", "Q:", q+":").Replace(s)
		}
		want, _, e := xmlns.Resolve(parse(t, s))
		if e != api.OK {
			t.Fatalf("Resolve(%q): %v", s, e)
		}
		for _, p := range names {
			for _, q := range names {
				if p != q {
					wantTree(t, rename(p, q), want)
				}
			}
		}
	}
}

// P8.4: documents that differ only in where the default namespace stands for a prefix.
func TestDefaultInsteadOfPrefix(t *testing.T) {
	for _, group := range [][]string{
		{"<p:a xmlns:p='u'/>", "<a xmlns='u'/>", "<a xmlns='u' xmlns:p='u'/>", "<p:a xmlns='u' xmlns:p='u'/>", "<p:a xmlns='v' xmlns:p='u'/>"},
		{"<p:a xmlns:p='u'><p:b/>x</p:a>", "<a xmlns='u'><b/>x</a>", "<p:a xmlns:p='u'><b xmlns='u'/>x</p:a>", "<a xmlns='u'><p:b xmlns:p='u'/>x</a>", "<a xmlns='u' xmlns:p='u'><p:b/>x</a>", "<p:a xmlns='u' xmlns:p='u'><b/>x</p:a>"},
		{"<p:a xmlns:p='u' p:b='1' c='2'/>", "<a xmlns='u' xmlns:p='u' p:b='1' c='2'/>", "<a xmlns='u' xmlns:q='u' q:b='1' c='2'/>"},
		{"<p:a xmlns:p='u'><b/></p:a>", "<a xmlns='u'><b xmlns=''/></a>", "<p:a xmlns:p='u' xmlns='v'><b xmlns=''/></p:a>"},
		{"<p:a xmlns:p='u'><q:b xmlns:q='v'><p:c/></q:b></p:a>", "<a xmlns='u'><b xmlns='v'><c xmlns='u'/></b></a>", "<a xmlns='u' xmlns:p='u'><b xmlns='v'><p:c/></b></a>", "<a xmlns='u' xmlns:q='v'><q:b><c/></q:b></a>"},
		{"<xml:a/>", "<a xmlns='" + xml + "'/>", "<p:a xmlns:p='" + xml + "'/>"},
	} {
		want, _, e := xmlns.Resolve(parse(t, group[0]))
		if e != api.OK {
			t.Fatalf("Resolve(%q): %v", group[0], e)
		}
		for _, s := range group {
			wantTree(t, s, want)
		}
	}
}

// writer writes resolved trees as documents, with prefixes that it draws.
type writer struct {
	*rand.Rand
}

// tree returns a tree with names in several namespaces.
func (w writer) tree(depth int) api.Node {
	spaces := []string{"", "u", "v", xml}
	n := element(spaces[w.IntN(4)], string(rune('a'+w.IntN(3))))
	for _, at := range w.Perm(12)[:w.IntN(5)] {
		n.Attrs = append(n.Attrs, attr(spaces[at%4], string(rune('a'+at/4)), strconv.Itoa(at)))
	}
	for range w.IntN(4) {
		if depth > 0 {
			n.Kids = append(n.Kids, w.tree(depth-1))
		}
		if len(n.Kids) > 0 && n.Kids[len(n.Kids)-1].Kind == api.Element && w.IntN(2) == 0 {
			n.Kids = append(n.Kids, data("x"))
		}
	}
	return n
}

// document writes an element where prefixes are declared. It draws declarations until there are prefixes for all names.
func (w writer) document(n api.Node, declared map[string]string) string {
	for {
		inner, parts := w.declarations(declared)
		name, ok := w.name(inner, n.Space, n.Name, true)
		place := 0
		for _, a := range n.Attrs {
			name, found := w.name(inner, a.Space, a.Name, false)
			place += w.IntN(len(parts) - place + 1)
			parts = slices.Insert(parts, place, " "+name+"='"+a.Value+"'")
			place++
			ok = ok && found
		}
		if !ok {
			continue
		}
		inside := ""
		for _, k := range n.Kids {
			if k.Kind == api.Element {
				inside += w.document(k, inner)
			} else {
				inside += k.Text
			}
		}
		return "<" + name + strings.Join(parts, "") + ">" + inside + "</" + name + ">"
	}
}

// declarations draws declarations, and returns all that apply with them, and their attributes.
func (w writer) declarations(declared map[string]string) (map[string]string, []string) {
	inner := maps.Clone(declared)
	var parts []string
	for _, p := range []string{"", "p", "q", "r"} {
		s := []string{"u", "v", xml, ""}[w.IntN(4)]
		switch {
		case w.IntN(2) == 0 || p != "" && s == "":
			continue
		case p == "":
			parts = append(parts, " xmlns='"+s+"'")
		default:
			parts = append(parts, " xmlns:"+p+"='"+s+"'")
		}
		inner[p] = s
	}
	return inner, parts
}

// name draws a prefix for a name, and answers whether there is one.
func (w writer) name(declared map[string]string, space, local string, isElement bool) (string, bool) {
	if space == "" && !isElement {
		return local, true
	}
	for _, i := range w.Perm(5) {
		p := []string{"", "p", "q", "r", "xml"}[i]
		if s, found := declared[p]; !found || s != space || p == "" && !isElement {
			continue
		}
		if p != "" {
			p += ":"
		}
		return p + local, true
	}
	return "", false
}

// P8.3, P8.4: each tree is resolved to itself, whichever prefixes its document has.
func TestDrawnPrefixes(t *testing.T) {
	w := writer{rand.New(rand.NewPCG(8, 4))}
	for range 500 {
		n := w.tree(3)
		for range 5 {
			wantTree(t, w.document(n, map[string]string{"": "", "xml": xml}), n)
		}
	}
}

func wantChildren(t *testing.T, n api.Node, space, name string, want ...api.Node) {
	t.Helper()
	if got := xmlns.Children(n, space, name); !slices.EqualFunc(got, want, same) {
		t.Errorf("Children(%+v, %q, %q) = %+v; want %+v", n, space, name, got, want)
	}
}

func wantAttr(t *testing.T, n api.Node, space, name, want string, ok bool) {
	t.Helper()
	if got, found := xmlns.Attr(n, space, name); got != want || found != ok {
		t.Errorf("Attr(%+v, %q, %q) = %q, %v; want %q, %v", n, space, name, got, found, want, ok)
	}
}

// kinds are kinds of nodes that are there, and some that are not.
var kinds = []int{api.Element, api.CharData, 2, -1, 256, 1 << 32, math.MaxInt, math.MinInt}

// P8.5: none, one and several elements that fit.
func TestChildren(t *testing.T) {
	b, c, ub := with(element("", "b", data("1"), element("", "b")), attr("", "d", "e")), element("", "c"), element("u", "b")
	n := element("", "a", b, data("x"), c, ub, element("", "b"), element("", "d", element("", "e"), ub))
	n.Kids[4].At = math.MinInt
	wantChildren(t, n, "", "b", b, n.Kids[4])
	wantChildren(t, n, "u", "b", ub)
	wantChildren(t, n, "", "c", c)
	wantChildren(t, n, "", "d", n.Kids[5])
	for _, name := range [][2]string{{"", "a"}, {"", "e"}, {"", ""}, {"u", "c"}, {"u", ""}, {"", "u"}, {"b", ""}, {"b", "u"}, {"U", "b"}, {"u", "B"}, {"u ", "b"}, {"", "ub"}, {"", "u:b"}, {"", "x"}, {"", "bc"}} {
		wantChildren(t, n, name[0], name[1])
	}
	wantChildren(t, api.Node{}, "", "")
	wantChildren(t, element("", "b"), "", "b")
	wantChildren(t, with(element("", "a"), attr("", "b", "1")), "", "b")
}

// P8.5: nodes that no document has, of any kind, around kids of any kind.
func TestChildrenOfStrangeNodes(t *testing.T) {
	inside := []api.Node{element("u", "b", data("x")), {Kind: 9, Attrs: []api.Attr{{At: 3}, {}}}}
	for _, outer := range kinds {
		n := api.Node{Kind: outer, Space: "u", Name: "b", Text: "\xFF", At: -1}
		var want []api.Node
		for _, space := range []string{"u", "", "\xFF"} {
			for _, kind := range append(kinds, kinds...) {
				n.Kids = append(n.Kids, api.Node{Kind: kind, Space: space, Name: "b", Attrs: []api.Attr{{Name: "xmlns"}}, Kids: inside, Text: "t", At: len(n.Kids)})
				if kind == api.Element && space == "u" {
					want = append(want, n.Kids[len(n.Kids)-1])
				}
			}
		}
		wantChildren(t, n, "u", "b", want...)
		wantChildren(t, n, "u", "c")
		wantChildren(t, n, "b", "u")
		wantChildren(t, api.Node{Kind: outer, Kids: []api.Node{{}, {Kind: api.CharData}, {}}}, "", "", api.Node{}, api.Node{})
		wantChildren(t, api.Node{Kind: outer, Kids: []api.Node{{Space: "\x00", Name: "xmlns:\xFF"}}}, "\x00", "xmlns:\xFF", api.Node{Space: "\x00", Name: "xmlns:\xFF"})
		wantChildren(t, api.Node{Kind: outer, Kids: []api.Node{{Kind: api.CharData, Name: "b", Kids: inside}}}, "", "b")
		// Kids beyond the length do not count.
		wantChildren(t, api.Node{Kind: outer, Kids: inside[:0]}, "u", "b")
		wantChildren(t, api.Node{Kind: outer, Kids: inside[1:]}, "u", "b")
	}
}

// P8.5: none, one and several attributes that fit, on nodes of any kind.
func TestAttr(t *testing.T) {
	for _, kind := range kinds {
		n := api.Node{Kind: kind, Space: "s", Name: "n", Text: "t", At: 5, Kids: []api.Node{with(element("", "k"), attr("", "l", "m"))}}
		n.Attrs = []api.Attr{attr("", "b", "1"), attr("u", "b", "2"), attr("u", "c", ""), attr("u", "c", "3"), attr("", "b", "4"), attr("u", "b", "5"), attr("", "", "6"), attr("\xFF", "xmlns:p", "\x00"), {Name: "d", Value: "7", At: -1}}
		for name, want := range map[[2]string]string{{"", "b"}: "1", {"u", "b"}: "2", {"u", "c"}: "", {"", ""}: "6", {"\xFF", "xmlns:p"}: "\x00", {"", "d"}: "7"} {
			wantAttr(t, n, name[0], name[1], want, true)
		}
		for _, name := range [][2]string{{"", "c"}, {"u", "d"}, {"u", ""}, {"b", ""}, {"b", "u"}, {"", "B"}, {"U", "b"}, {"s", "n"}, {"", "l"}, {"", "u"}, {"", "1"}, {"", "p"}, {"", "xmlns:p"}, {"u", "bc"}, {"", "ub"}} {
			wantAttr(t, n, name[0], name[1], "", false)
		}
		wantAttr(t, api.Node{Kind: kind}, "", "", "", false)
		wantAttr(t, api.Node{Kind: kind, Attrs: n.Attrs[:0]}, "", "b", "", false)
		wantAttr(t, api.Node{Kind: kind, Attrs: n.Attrs[1:4]}, "", "b", "", false)
		wantAttr(t, api.Node{Kind: kind, Attrs: []api.Attr{{}}}, "", "", "", true)
	}
}

// P8.5: the functions find the names of a resolved document.
func TestChildrenAndAttrOfDocument(t *testing.T) {
	n, _, _ := xmlns.Resolve(parse(t, "<a xmlns:p='u' p:k='1' k='2' xml:k='3'><b>1</b>b<p:b xmlns:q='u' q:c='4'/><b/><c><b/></c><b xmlns='u'/></a>"))
	wantChildren(t, n, "", "b", n.Kids[0], n.Kids[3])
	wantChildren(t, n, "u", "b", n.Kids[2], n.Kids[5])
	wantChildren(t, n, "", "p:b")
	wantAttr(t, n, "u", "k", "1", true)
	wantAttr(t, n, "", "k", "2", true)
	wantAttr(t, n, xml, "k", "3", true)
	wantAttr(t, n.Kids[2], "u", "c", "4", true)
	for _, name := range []string{"p:k", "xml:k", "xmlns:p", "p", "xmlns"} {
		wantAttr(t, n, "", name, "", false)
	}
}

// overwrite changes everything in a node that others could share, also behind the ends of its lists.
func overwrite(n *api.Node) {
	attrs := n.Attrs[:cap(n.Attrs)]
	for i := range attrs {
		attrs[i] = attr("z", "z", "z")
	}
	for i := range n.Kids {
		overwrite(&n.Kids[i])
	}
	kids := n.Kids[:cap(n.Kids)]
	for i := range kids {
		kids[i] = api.Node{Kind: 9, Space: "z", Name: "z", Text: "z", At: -1}
	}
}

// roomy returns a copy of a node whose lists have room behind their ends.
func roomy(n api.Node) api.Node {
	n.Attrs = append(make([]api.Attr, 0, len(n.Attrs)+2), n.Attrs...)
	kids := make([]api.Node, 0, len(n.Kids)+2)
	for _, k := range n.Kids {
		kids = append(kids, roomy(k))
	}
	n.Kids = kids
	return n
}

// P8.3: what Resolve returns is not changed with its argument or another result, nor the other way round.
func TestResolveSharesNothing(t *testing.T) {
	for _, s := range append(slices.Clone(samples), "<a/>", "<a b=''>x</a>", "<a><b><c d='1'/></b><b/></a>", "<a xmlns='u'>x<b xmlns='v'/></a>") {
		n := roomy(parse(t, s))
		before := clone(n)
		want, _, _ := resolve(n)
		first, _, _ := xmlns.Resolve(n)
		second, _, _ := xmlns.Resolve(n)
		overwrite(&first)
		if !same(n, before) || !same(second, want) {
			t.Errorf("%+v became %+v, with %+v instead of %+v", before, n, second, want)
		}
		behind := func(n api.Node) bool {
			return slices.Equal(n.Attrs[:cap(n.Attrs)][len(n.Attrs):], make([]api.Attr, 2)) && slices.EqualFunc(n.Kids[:cap(n.Kids)][len(n.Kids):], make([]api.Node, 2), same)
		}
		for _, p := range preorder(nil, n) {
			if !behind(p.element()) {
				t.Errorf("%+v was written behind its end", p.element())
			}
		}
		overwrite(&n)
		if !same(second, want) {
			t.Errorf("%+v became %+v", want, second)
		}
	}
	// Two kids of the argument may share memory, but not those of the result.
	shared := with(element("", "b", data("x"), element("", "c")), attr("", "d", "1"))
	n, _, _ := xmlns.Resolve(element("", "a", shared, shared))
	overwrite(&n.Kids[0])
	if !same(n.Kids[1], shared) {
		t.Errorf("the kids share memory: %+v", n.Kids[1])
	}
}

// P8.5: what Children returns is not changed with its argument or another result, nor the other way round.
func TestChildrenShareNothing(t *testing.T) {
	b := with(element("u", "b", data("x"), with(element("", "c"), attr("", "d", "1"))), attr("", "e", "2"))
	n := roomy(element("", "a", b, element("", "b"), b, data("y")))
	before := clone(n)
	first, second := xmlns.Children(n, "u", "b"), xmlns.Children(n, "u", "b")
	overwrite(&first[0])
	if !same(first[1], b) {
		t.Errorf("the elements share memory: %+v", first[1])
	}
	overwrite(&api.Node{Kids: first})
	if !same(n, before) || !slices.EqualFunc(second, []api.Node{b, b}, same) {
		t.Errorf("%+v became %+v, with %+v", before, n, second)
	}
	overwrite(&n)
	if !slices.EqualFunc(second, []api.Node{b, b}, same) {
		t.Errorf("the elements became %+v", second)
	}
	// An empty result has no room in the argument either.
	n = roomy(element("", "a", data("x"), data("y")))
	_ = append(xmlns.Children(n, "u", "b"), b)
	_ = append(xmlns.Children(api.Node{Kids: n.Kids[:0]}, "u", "b"), b)
	if !same(n, element("", "a", data("x"), data("y"))) {
		t.Errorf("the argument became %+v", n)
	}
}

// numbered returns many parts with numbers in place of the sign #.
func numbered(part string, count int) string {
	var out strings.Builder
	for i := range count {
		out.WriteString(strings.ReplaceAll(part, "#", strconv.Itoa(i)))
	}
	return out.String()
}

// P1: elements with many attributes and declarations, and long namespaces.
func TestLongTags(t *testing.T) {
	const count = 1 << 15
	long := strings.Repeat("u", 1<<20)
	for s, last := range map[string]api.Attr{
		"<a" + numbered(" b#='#'", count) + "/>":                                                                attr("", "b32767", "32767"),
		"<a xmlns:p='u'" + numbered(" p:b#='#'", count) + "/>":                                                  attr("u", "b32767", "32767"),
		"<a" + numbered(" xmlns:p#='u#'", count) + numbered(" p#:b='#'", count) + "/>":                          attr("u32767", "b", "32767"),
		"<a" + numbered(" p#:b='#' xmlns:p#='u#'", count) + "/>":                                                attr("u32767", "b", "32767"),
		"<a" + numbered(" xmlns:p#='u' p#:b#='#'", count) + "/>":                                                attr("u", "b32767", "32767"),
		"<a xmlns:p='" + long + "' xmlns:q='" + long + "'" + numbered(" p:b#='#' q:c#='#'", count) + "/>":       attr(long, "c32767", "32767"),
		"<a xmlns:p='" + long + "1' xmlns:q='" + long + "2'" + numbered(" p:b#='#' q:b#='#'", count) + "/>":     attr(long+"2", "b32767", "32767"),
		"<a xmlns:" + long + "='u'" + numbered(" xml:b#='#' c#=''", count) + " " + long + ":" + long + "='1'/>": attr("u", long, "1"),
	} {
		n, at, e := xmlns.Resolve(parse(t, s))
		if len(n.Attrs) < count || n.Attrs[len(n.Attrs)-1].Value != last.Value || n.Attrs[len(n.Attrs)-1].Space != last.Space || n.Attrs[len(n.Attrs)-1].Name != last.Name || at != 0 || e != api.OK {
			t.Errorf("Resolve(%.100q): %d attributes, %d, %v", s, len(n.Attrs), at, e)
		}
	}
	wantError(t, "<a xmlns:p='u' xmlns:q='u'"+numbered(" p:b#=''", count)+" |q:b32767=''/>", api.ErrDuplicate)
	wantError(t, "<a xmlns:p='"+long+"' xmlns:q='"+long+"'"+numbered(" p:b#=''", count)+" |q:b0=''/>", api.ErrDuplicate)
	wantError(t, "<a"+numbered(" xmlns:p#='u#'", count)+numbered(" p#:b=''", count)+" |x:b=''/>", api.ErrPrefix)
	wantError(t, "<a"+numbered(" xmlns:p#='u#'", count)+" |xmlns:x=''/>", api.ErrPrefix)
}

// P1: many elements, in the deepest environments and with declarations around and on each of them.
func TestManyElements(t *testing.T) {
	const count = 1 << 15
	kids := func(part string, of func(i int) api.Node) (string, []api.Node) {
		var nodes []api.Node
		for i := range count {
			nodes = append(nodes, of(i))
		}
		return numbered(part, count), nodes
	}
	s, nodes := kids("<p#:b/>", func(i int) api.Node { return element("u"+strconv.Itoa(i), "b") })
	wantTree(t, "<a"+numbered(" xmlns:p#='u#'", count)+">"+s+"</a>", element("", "a", nodes...))
	s, nodes = kids("<p#:b xmlns:p='v#' p:c='#'/>", func(i int) api.Node {
		return with(element("u"+strconv.Itoa(i), "b"), attr("v"+strconv.Itoa(i), "c", strconv.Itoa(i)))
	})
	wantTree(t, "<a"+numbered(" xmlns:p#='u#'", count)+">"+s+"</a>", element("", "a", nodes...))

	// The prefix of the outermost of 99 elements is used in the innermost one.
	s, nodes = kids("<p:b p:c='#'/>x", func(i int) api.Node { return with(element("u", "b"), attr("u", "c", strconv.Itoa(i))) })
	want := element("99", "a")
	for _, n := range nodes {
		want.Kids = append(want.Kids, n, data("x"))
	}
	for i := 98; i > 0; i-- {
		want = element(strconv.Itoa(i), "a", want)
		s = "<a xmlns='" + strconv.Itoa(i+1) + "' xmlns:p" + strconv.Itoa(i) + "='v'>" + s + "</a>"
	}
	wantTree(t, "<a xmlns='1' xmlns:p='u'>"+s+"</a>", want)
}

// P1: nodes that are nested as deep as is permitted, and wide ones.
func TestDeepNodes(t *testing.T) {
	const deep = 1 << 16
	n := data("x")
	for i := range deep - 1 {
		n = with(element("u", "a", n, data("y")), attr("u", "b", strconv.Itoa(i)))
	}
	for depth := range 3 {
		wantAttr(t, n, "u", "b", strconv.Itoa(deep-2-depth), true)
		kids := xmlns.Children(n, "u", "a")
		if len(kids) != 1 || !same(kids[0], n.Kids[0]) {
			t.Fatalf("Children returns %d elements", len(kids))
		}
		n = kids[0]
	}
	wide := element("", "a", slices.Repeat([]api.Node{element("u", "b"), data("b"), element("", "b")}, deep)...)
	wide.Attrs = append(slices.Repeat([]api.Attr{attr("u", "b", "1")}, deep), attr("", "b", "2"))
	wantAttr(t, wide, "", "b", "2", true)
	if kids := xmlns.Children(wide, "u", "b"); len(kids) != deep || !same(kids[deep-1], element("u", "b")) {
		t.Errorf("Children returns %d elements", len(kids))
	}
}

// P1, P2: calls at the same time do not influence each other.
func TestConcurrentCalls(t *testing.T) {
	var nodes []api.Node
	for _, s := range samples {
		nodes = append(nodes, parse(t, s))
	}
	for _, c := range wrong {
		nodes = append(nodes, parse(t, strings.ReplaceAll(document(c.tag, ""), "|", "")))
	}
	var wg sync.WaitGroup
	for range 4 {
		wg.Go(func() {
			for range 20 {
				for _, n := range nodes {
					compare(t, n)
				}
				for _, a := range nodes[0].Attrs {
					wantAttr(t, nodes[0], "", a.Name, a.Value, true)
				}
				wantChildren(t, nodes[0], "", "p:e", nodes[0].Kids[1])
			}
		})
	}
	wg.Wait()
}

// FuzzResolve checks the promises on arbitrary documents.
func FuzzResolve(f *testing.F) {
	for _, s := range samples {
		f.Add(s)
	}
	for _, c := range wrong {
		f.Add(strings.ReplaceAll(document(c.tag, "x"), "|", ""))
	}
	f.Fuzz(func(t *testing.T, s string) {
		compareSplit(t, s)
		if n, _, e := xmltree.Parse(s); e == api.OK && len(s) < 1000 {
			compare(t, n)
		}
	})
}

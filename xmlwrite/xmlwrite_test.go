package xmlwrite_test

import (
	"fmt"
	"math"
	"math/rand/v2"
	"slices"
	"strconv"
	"strings"
	"sync"
	"testing"

	"feedvault/api"
	"feedvault/xmltree"
	"feedvault/xmlwrite"
)

// kinds are kinds of nodes that are there, and some that are not.
var kinds = []int{api.Element, api.CharData, 2, -1, 256, 257, 1 << 32, 1<<32 + 1, math.MaxInt, math.MinInt}

// goodNames, goodChars and their opposites are names and strings of XML characters, and strings that are none.
var (
	goodNames = []string{"a", "A", "z", "_", ":", "::", "a:b", "a:b:c", ":1", "a1", "a-", "a.", "a.b-c_d", "é", "a\u00B7", "a\u0300", "\u0370", "a\u203F", "\uFFFD", "\U00010000", "\U000EFFFF", "xml", "xmlns", "xmlns:p", "xml:lang", strings.Repeat("n", 1000)}
	badNames  = []string{"", "1", "1a", "-", "-a", ".a", "\u00B7", "\u0300a", " ", " a", "a ", "a b", "a\tb", "\na", "a\r", "a\u00A0b", "\u00D7", "a\u00F7", "a\u037E", "\u2190", "\U000F0000", "a\uFFFE", "a\x00", "\x00", "a<", "a>", "a/", "/a", "a=", "a='1'", "a\"", "a'", "a&", "a&amp;", "&a;", "!a", "?a", "a;", "a,b", "{u}a", "a@b", "\xFF", "a\xFF", "\xFFa", "a\xC3", "\xE9", "a\xED\xA0\x80", "\xC1\x81", "a\xF4\x90\x80\x80"}
	goodChars = []string{"x", " ", "  ", "\t", "\n", "\r", "\r\n", "\n\r", " x ", "\tx\t", "\nx\n", "\rx\r", "x y", "x\ty", "x\ny", "x\ry", "x\r\ny", "&", "<", ">", "\"", "'", "&lt;", "&amp;lt;", "&#13;", "&;", "&&", "<<", "<b/>", "</a>", "<!--", "-->", "<?p?>", "<![CDATA[", "]]>", "]]]>", "=", "/>", "\x7F", "\u0080", "\u0085", "\u00A0", "é", "\u2028", "\uD7FF", "\uE000", "\uFEFF", "\uFFFD", "\U00010000", "\U0010FFFF", "0", strings.Repeat("x<", 1000)}
	badChars  = []string{"\x00", "\x01", "\x08", "\x0B", "\x0C", "\x0E", "\x1F", "x\x00", "\x00x", "x\x1Bx", "\uFFFE", "\uFFFF", "x\uFFFF", "\xFF", "x\xFF", "\xFFx", "\x80", "\xC3", "x\xC3", "\xE2\x82", "\xC0\x80", "\xC1\xBF", "\xE0\x80\x80", "\xED\xA0\x80", "\xED\xBF\xBF", "\xF0\x80\x80\x80", "\xF4\x90\x80\x80", "\xF8\x88\x80\x80\x80", strings.Repeat("x", 1000) + "\x00"}
)

// show returns the beginning of a node as text.
func show(n api.Node) string {
	s := fmt.Sprintf("%+q", fmt.Sprintf("%+v", n))
	return s[:min(len(s), 1000)]
}

// wantDocument checks the document of a valid tree; its first line and last byte are added to the form.
func wantDocument(t *testing.T, n api.Node, form string) {
	t.Helper()
	s, e := xmlwrite.Write(n)
	if s != firstLine+form+"\n" || e != api.OK {
		t.Errorf("Write(%s) = %.1000q, %v; want %.1000q", show(n), s, e, form)
	}
	if !compare(t, n) {
		t.Errorf("%s is not valid", show(n))
	}
}

func wantInvalid(t *testing.T, n api.Node) {
	t.Helper()
	if s, e := xmlwrite.Write(n); s != "" || e != api.ErrInvalid {
		t.Errorf("Write(%s) = %.1000q, %v", show(n), s, e)
	}
	if e := xmlwrite.Check(n); e != api.ErrInvalid {
		t.Errorf("Check(%s) = %v", show(n), e)
	}
	if compare(t, n) {
		t.Errorf("%s is valid", show(n))
	}
}

// compare compares Check and Write with their definitions, and checks what follows from the promises. It reports whether the tree is valid.
func compare(t *testing.T, n api.Node) bool {
	t.Helper()
	before := clone(n)
	want, wantE := "", api.ErrInvalid
	if valid(n) {
		want, wantE = document(n), api.OK
	}
	if e := xmlwrite.Check(n); e != wantE {
		t.Errorf("Check(%s) = %v; want %v", show(n), e, wantE)
	}
	s, e := xmlwrite.Write(n)
	if s != want || e != wantE {
		t.Errorf("Write(%s) = %.1000q, %v; want %.1000q, %v", show(n), s, e, want, wantE)
	}
	if !same(n, before) {
		t.Errorf("%s became %s", show(before), show(n))
	}
	if e == api.OK {
		wantReadBack(t, n, s)
	}
	return wantE == api.OK
}

// wantReadBack checks P9.4 for a valid tree and its document.
func wantReadBack(t *testing.T, n api.Node, s string) {
	t.Helper()
	m, at, e := xmltree.Parse(s)
	if !xmltree.Equal(m, n) || at != len(s) || e != api.OK {
		t.Errorf("Parse(%.1000q) = %s, %d, %v; want %s", s, show(m), at, e, show(n))
	}
	if again, e := xmlwrite.Write(m); again != s || e != api.OK {
		t.Errorf("Write(%s) = %.1000q, %v; want %.1000q", show(m), again, e, s)
	}
}

// element returns an element with kids of any kind, also those that Elem leaves out.
func element(name string, kids ...api.Node) api.Node { return api.Node{Name: name, Kids: kids} }

// nested returns elements to a depth, of which the innermost one has some kids.
func nested(depth int, inside ...api.Node) api.Node {
	n := element("n", inside...)
	for range depth - 1 {
		n = element("n", n)
	}
	return n
}

// around returns trees that have a node at several depths and places, each of which is valid exactly if the node is.
func around(n api.Node) []api.Node {
	x, b := data("x"), element("b")
	var out []api.Node
	for _, depth := range []int{1, 2, 3, 50} {
		for _, kids := range [][]api.Node{{n}, {b, n}, {n, b}, {x, b, n}, {n, b, x}, {x, b, n, b, x}, {b, b, b, n, b}} {
			out = append(out, nested(depth, kids...), element("a", b, x, with(nested(depth, kids...), "p", "1"), x))
		}
	}
	return out
}

// wantEverywhere checks a node within other ones; an element is checked as the root, too.
func wantEverywhere(t *testing.T, n api.Node, valid bool) {
	t.Helper()
	trees := around(n)
	if n.Kind == api.Element {
		trees = append(trees, n)
	}
	for _, m := range trees {
		if compare(t, m) != valid {
			t.Errorf("%s: valid is %v", show(m), !valid)
			return
		}
	}
}

// sample returns a valid tree with nodes and attributes of each kind.
func sample() api.Node {
	c := with(element("c", data("y"), element("p:e"), data(" ")), "g", "\t", "h", "")
	return with(element("a", data("<x>"), with(element("b"), "q", "1"), c, element("b", element("d"), element("d", data("\r\n")))), "xmlns:p", "u", "r", "\"'")
}

// strange returns a node with all fields, which no tree has.
func strange(kind int) api.Node {
	return api.Node{Kind: kind, Space: "s", Name: "n\xFF", Text: "t\x00", At: -5,
		Attrs: []api.Attr{{Space: "s", Name: "", Value: "\xFF", At: 7}, {}, {Name: "b"}, {Name: "b"}},
		Kids:  []api.Node{data(""), data("x"), data("y"), {Kind: 9, At: math.MinInt, Kids: []api.Node{data("")}}}}
}

// pool has nodes as arguments of Elem and With.
func pool() []api.Node {
	nodes := []api.Node{data(""), data("x"), data("\x00"), element(""), element("b"), sample(), element("b", data("x"), element("c")), {At: 3}, {Kind: api.CharData, Text: "x", At: 4}}
	for _, kind := range kinds {
		nodes = append(nodes, strange(kind), api.Node{Kind: kind}, api.Node{Kind: kind, Name: "n", Attrs: []api.Attr{{Name: "b"}}, Kids: []api.Node{data(""), element("c")}})
	}
	return nodes
}

func compareElem(t *testing.T, name string, kids ...api.Node) {
	t.Helper()
	before := clone(api.Node{Kids: kids})
	if got, want := xmlwrite.Elem(name, kids...), elem(name, kids...); !same(got, want) {
		t.Errorf("Elem(%q, %s) = %s; want %s", name, show(before), show(got), show(want))
	}
	if !same(api.Node{Kids: kids}, before) {
		t.Errorf("%s became %s", show(before), show(api.Node{Kids: kids}))
	}
}

// P9.1: elements with no kids, one and several.
func TestElem(t *testing.T) {
	x, y, b := xmlwrite.Text("x"), xmlwrite.Text("y"), xmlwrite.Elem("b")
	for _, c := range []struct{ got, want api.Node }{
		{xmlwrite.Elem("a"), api.Node{Name: "a"}},
		{xmlwrite.Elem(""), api.Node{}},
		{xmlwrite.Elem("1 \xFF"), api.Node{Name: "1 \xFF"}},
		{b, api.Node{Kind: 0, Name: "b"}},
		{xmlwrite.Elem("a", x), api.Node{Name: "a", Kids: []api.Node{{Kind: 1, Text: "x"}}}},
		{xmlwrite.Elem("a", b), api.Node{Name: "a", Kids: []api.Node{{Name: "b"}}}},
		{xmlwrite.Elem("a", b, x, b, y), api.Node{Name: "a", Kids: []api.Node{{Name: "b"}, {Kind: 1, Text: "x"}, {Name: "b"}, {Kind: 1, Text: "y"}}}},
		// Adjacent character data is neither joined nor left out.
		{xmlwrite.Elem("a", x, y), api.Node{Name: "a", Kids: []api.Node{{Kind: 1, Text: "x"}, {Kind: 1, Text: "y"}}}},
		{xmlwrite.Elem("a", xmlwrite.Text(" ")), api.Node{Name: "a", Kids: []api.Node{{Kind: 1, Text: " "}}}},
		{xmlwrite.Elem("a", xmlwrite.Elem("b", x, xmlwrite.Elem("c")), y), api.Node{Name: "a", Kids: []api.Node{{Name: "b", Kids: []api.Node{{Kind: 1, Text: "x"}, {Name: "c"}}}, {Kind: 1, Text: "y"}}}},
		{xmlwrite.Elem("a", strange(0), strange(1), strange(2)), api.Node{Name: "a", Kids: []api.Node{strange(0), strange(1), strange(2)}}},
	} {
		if !same(c.got, c.want) {
			t.Errorf("%s; want %s", show(c.got), show(c.want))
		}
	}
}

// P9.1: only empty character data is left out, and only that directly in the element.
func TestElemLeavesOut(t *testing.T) {
	none, x, b := xmlwrite.Text(""), xmlwrite.Text("x"), xmlwrite.Elem("b")
	nameless := xmlwrite.Elem("")
	odd := strange(api.CharData)
	odd.Text = ""
	for _, c := range []struct{ kids, want []api.Node }{
		{[]api.Node{none}, nil},
		{[]api.Node{none, none, none}, nil},
		{[]api.Node{none, x}, []api.Node{x}},
		{[]api.Node{x, none}, []api.Node{x}},
		{[]api.Node{x, none, x}, []api.Node{x, x}},
		{[]api.Node{none, b, none, none, x, none, b, none}, []api.Node{b, x, b}},
		{[]api.Node{odd}, nil},
		{[]api.Node{b, odd, x, {Kind: api.CharData, Name: "n", At: 5}}, []api.Node{b, x}},
		{[]api.Node{nameless}, []api.Node{{}}},
		{[]api.Node{nameless, none, nameless, {}}, []api.Node{{}, {}, {}}},
		{[]api.Node{{Kind: 2}, {Kind: -1}, {Kind: 257}, none}, []api.Node{{Kind: 2}, {Kind: -1}, {Kind: 257}}},
		{[]api.Node{{Name: "b", Kids: []api.Node{none, x}}}, []api.Node{{Name: "b", Kids: []api.Node{none, x}}}},
		{[]api.Node{{Kind: api.CharData, Text: "x", Kids: []api.Node{none}}}, []api.Node{{Kind: api.CharData, Text: "x", Kids: []api.Node{none}}}},
	} {
		for _, name := range []string{"a", "", "b"} {
			if got, want := xmlwrite.Elem(name, c.kids...), (api.Node{Name: name, Kids: c.want}); !same(got, want) {
				t.Errorf("Elem(%q, %s) = %s; want %s", name, show(api.Node{Kids: c.kids}), show(got), show(want))
			}
		}
	}
}

// every calls f with all lists of at most n of the parts.
func every[T any](list, parts []T, n int, f func([]T)) {
	f(list)
	if n > 0 {
		for _, p := range parts {
			every(append(list[:len(list):len(list)], p), parts, n-1, f)
		}
	}
}

// P9.1: all short lists of kids, of any kind.
func TestEveryElem(t *testing.T) {
	every(nil, pool(), 2, func(kids []api.Node) { compareElem(t, "a", kids...) })
	every(nil, []api.Node{data(""), data("x"), element("b"), {}, {Kind: 2}}, 5, func(kids []api.Node) { compareElem(t, "", kids...) })
	for _, name := range slices.Concat(goodNames, badNames, goodChars, badChars) {
		compareElem(t, name)
		compareElem(t, name, sample(), data(""), strange(api.Element))
	}
}

// P9.1: character data is any string.
func TestText(t *testing.T) {
	for _, s := range slices.Concat([]string{"", "x"}, goodNames, badNames, goodChars, badChars) {
		if got := xmlwrite.Text(s); !same(got, api.Node{Kind: 1, Text: s}) {
			t.Errorf("Text(%q) = %s", s, show(got))
		}
	}
}

func compareWith(t *testing.T, n api.Node, pairs ...string) {
	t.Helper()
	before, pairsBefore := clone(n), slices.Clone(pairs)
	if got, want := xmlwrite.With(n, pairs...), with(n, pairs...); !same(got, want) {
		t.Errorf("With(%s, %q) = %s; want %s", show(n), pairs, show(got), show(want))
	}
	if !same(n, before) || !slices.Equal(pairs, pairsBefore) {
		t.Errorf("%s and %q became %s and %q", show(before), pairsBefore, show(n), pairs)
	}
}

// P9.1: no pair, one and several, and an odd number of strings.
func TestWith(t *testing.T) {
	a := xmlwrite.Elem("a", xmlwrite.Text("x"))
	ab := xmlwrite.With(a, "b", "1")
	kids := []api.Node{{Kind: 1, Text: "x"}}
	for _, c := range []struct {
		n     api.Node
		pairs []string
		want  []api.Attr
	}{
		{a, nil, nil},
		{a, []string{"b"}, nil},
		{a, []string{""}, nil},
		{a, []string{"b", "1"}, []api.Attr{{Name: "b", Value: "1"}}},
		{a, []string{"b", ""}, []api.Attr{{Name: "b"}}},
		{a, []string{"", ""}, []api.Attr{{}}},
		{a, []string{"b", "1", "c"}, []api.Attr{{Name: "b", Value: "1"}}},
		{a, []string{"b", "1", "c", "2"}, []api.Attr{{Name: "b", Value: "1"}, {Name: "c", Value: "2"}}},
		{a, []string{"c", "2", "b", "1"}, []api.Attr{{Name: "c", Value: "2"}, {Name: "b", Value: "1"}}},
		{a, []string{"b", "1", "b", "2", "b", "1"}, []api.Attr{{Name: "b", Value: "1"}, {Name: "b", Value: "2"}, {Name: "b", Value: "1"}}},
		{a, []string{"1 a", "\xFF", "xmlns:p", "<", "z"}, []api.Attr{{Name: "1 a", Value: "\xFF"}, {Name: "xmlns:p", Value: "<"}}},
		{ab, nil, []api.Attr{{Name: "b", Value: "1"}}},
		{ab, []string{"c"}, []api.Attr{{Name: "b", Value: "1"}}},
		{ab, []string{"c", "2"}, []api.Attr{{Name: "b", Value: "1"}, {Name: "c", Value: "2"}}},
		{ab, []string{"a", "0", "b", "1", "c"}, []api.Attr{{Name: "b", Value: "1"}, {Name: "a", Value: "0"}, {Name: "b", Value: "1"}}},
	} {
		if got := xmlwrite.With(c.n, c.pairs...); !same(got, api.Node{Name: "a", Attrs: c.want, Kids: kids}) {
			t.Errorf("With(%s, %q) = %s; want %s", show(c.n), c.pairs, show(got), show(api.Node{Attrs: c.want}))
		}
	}
	// The other fields stay, whatever they are: also those of character data, of its kids and of its attributes.
	got := xmlwrite.With(strange(api.CharData), "c", "2", "d")
	want := strange(api.CharData)
	want.Attrs = append(want.Attrs, api.Attr{Name: "c", Value: "2"})
	if !same(got, want) {
		t.Errorf("With(%s) = %s", show(strange(api.CharData)), show(got))
	}
}

// P9.1: all short lists of strings, on nodes of any kind.
func TestEveryWith(t *testing.T) {
	for _, n := range pool() {
		every(nil, []string{"", "b", "\xFF"}, 5, func(pairs []string) { compareWith(t, n, pairs...) })
	}
	for _, s := range slices.Concat(goodNames, badNames, goodChars, badChars) {
		compareWith(t, sample(), s, "1", "b", s, s)
	}
}

// P9.2, P9.3: the documents of ordinary trees.
func TestWrite(t *testing.T) {
	x, b := xmlwrite.Text("x"), xmlwrite.Elem("b")
	wantDocument(t, xmlwrite.Elem("a"), "<a/>")
	wantDocument(t, xmlwrite.Elem("a", xmlwrite.Text("")), "<a/>")
	wantDocument(t, xmlwrite.Elem("a", x), "<a>x</a>")
	wantDocument(t, xmlwrite.Elem("a", b), "<a><b/></a>")
	wantDocument(t, xmlwrite.Elem("a", x, b, x), "<a>x<b/>x</a>")
	wantDocument(t, xmlwrite.Elem("a", b, b, x, b), "<a><b/><b/>x<b/></a>")
	wantDocument(t, xmlwrite.Elem("a", xmlwrite.Elem("b", xmlwrite.Elem("c", x)), b), "<a><b><c>x</c></b><b/></a>")
	wantDocument(t, xmlwrite.Elem("a", xmlwrite.Elem("a", xmlwrite.Elem("a"), x), x), "<a><a><a/>x</a>x</a>")
	wantDocument(t, xmlwrite.With(xmlwrite.Elem("a", x), "b", "<"), `<a b="&lt;">x</a>`)
	wantDocument(t, xmlwrite.With(xmlwrite.Elem("a"), "b", ""), `<a b=""/>`)
	wantDocument(t, xmlwrite.With(xmlwrite.Elem("a"), "c", "1", "b", "2", "a", "1"), `<a c="1" b="2" a="1"/>`)
	wantDocument(t, xmlwrite.With(xmlwrite.Elem("a", xmlwrite.With(b, "c", "1"), xmlwrite.With(b, "c", "1")), "c", "1"), `<a c="1"><b c="1"/><b c="1"/></a>`)
	// The namespaces of this layer are names and values like others.
	wantDocument(t, xmlwrite.With(xmlwrite.Elem("p:a", xmlwrite.Elem("q:b")), "xmlns", "u", "xmlns:p", "", "r:c", "1"), `<p:a xmlns="u" xmlns:p="" r:c="1"><q:b/></p:a>`)
	wantDocument(t, xmlwrite.With(xmlwrite.Elem(":", xmlwrite.Elem("é")), "::", "1", "a:b:c", "2"), `<: ::="1" a:b:c="2"><é/></:>`)
	wantDocument(t, xmlwrite.Elem("a", xmlwrite.Text("\uFEFF€\U0001F600")), "<a>\uFEFF€\U0001F600</a>")
	wantDocument(t, sample(), "<a xmlns:p=\"u\" r=\"&quot;'\">&lt;x&gt;<b q=\"1\"/><c g=\"&#9;\" h=\"\">y<p:e/> </c><b><d/><d>&#13;\n</d></b></a>")
}

// P9.3: what is escaped in values and in character data, and what is not.
func TestEscapes(t *testing.T) {
	for s, want := range map[string][2]string{
		"&": {"&amp;", "&amp;"}, "<": {"&lt;", "&lt;"}, ">": {"&gt;", "&gt;"}, "\r": {"&#13;", "&#13;"}, "\"": {"&quot;", `"`}, "\t": {"&#9;", "\t"}, "\n": {"&#10;", "\n"},
		"'": {"'", "'"}, " ": {" ", " "}, "\u0085": {"\u0085", "\u0085"}, "\u2028": {"\u2028", "\u2028"}, "\x7F": {"\x7F", "\x7F"},
		"\r\n": {"&#13;&#10;", "&#13;\n"}, "\t \n": {"&#9; &#10;", "\t \n"}, "&amp;": {"&amp;amp;", "&amp;amp;"}, "&#13;": {"&amp;#13;", "&amp;#13;"}, "]]>": {"]]&gt;", "]]&gt;"}, "<!--x-->": {"&lt;!--x--&gt;", "&lt;!--x--&gt;"},
	} {
		value, inside := want[0], want[1]
		for _, around := range [][2]string{{"", ""}, {"x", ""}, {"", "x"}, {"x", "x"}, {" ", " "}, {"\u00E9", "\u00E9"}} {
			first, last := around[0], around[1]
			n := with(element("a", data(first+s+last)), "b", first+s+last, "c", s+s)
			wantDocument(t, n, `<a b="`+first+value+last+`" c="`+value+value+`">`+first+inside+last+"</a>")
			wantDocument(t, element("d", n, data(s), n), "<d>"+form(n)+inside+form(n)+"</d>")
		}
	}
}

// P9.2: trees with valid parts are valid, with these parts anywhere in them.
func TestValid(t *testing.T) {
	wantEverywhere(t, sample(), true)
	for _, name := range goodNames {
		wantEverywhere(t, element(name), true)
		wantEverywhere(t, with(element(name, data(name)), "k", "", name+"0", name, "l", "x"), true)
	}
	for _, s := range goodChars {
		wantEverywhere(t, data(s), true)
		wantEverywhere(t, with(element("a", data(s)), "b", s, "c", "", "d", s), true)
	}
	wantEverywhere(t, api.Node{Name: "a", Attrs: []api.Attr{}, Kids: []api.Node{}}, true)
	wantEverywhere(t, api.Node{Kind: api.CharData, Text: "x", Attrs: []api.Attr{}, Kids: []api.Node{}}, true)
}

// changed returns a sound element or sound character data with a change.
func changed(n api.Node, change func(*api.Node)) api.Node {
	n = clone(n)
	change(&n)
	return n
}

// P9.2: elements with a single fault, anywhere in a tree.
func TestInvalidElements(t *testing.T) {
	for _, sound := range []api.Node{element("a"), with(element("a"), "b", "1"), element("a", data("x")), sample()} {
		wantEverywhere(t, sound, true)
		fault := func(change func(*api.Node)) { t.Helper(); wantEverywhere(t, changed(sound, change), false) }
		for _, s := range []string{"s", " ", "\x00", "http://www.w3.org/XML/1998/namespace"} {
			fault(func(n *api.Node) { n.Space = s })
			fault(func(n *api.Node) { n.Text = s })
		}
		for _, name := range badNames {
			fault(func(n *api.Node) { n.Name = name })
		}
		for _, kind := range kinds[1:] {
			fault(func(n *api.Node) { n.Kind = kind })
		}
		for _, s := range append([]string{""}, badChars...) {
			fault(func(n *api.Node) { n.Kids = []api.Node{data(s)} })
		}
		for _, kids := range [][]api.Node{{data("x"), data("y")}, {data("x"), data("x"), element("b")}, {element("b"), data(" "), data(" ")}, {data("x"), element("b"), data("x"), data("y")}, {element("b"), data("x"), data("y"), element("b")}, {data("x"), element("b"), data("")}, {data(""), data("x")}, {data("x"), data("")}, {{}}, {element("b"), {}}, {element("b"), strange(0)}} {
			fault(func(n *api.Node) { n.Kids = kids })
		}
	}
}

// P9.2: attributes with a single fault, first, in the middle and last among others, on elements anywhere in a tree.
func TestInvalidAttributes(t *testing.T) {
	var wrong []api.Attr
	for _, name := range badNames {
		wrong = append(wrong, api.Attr{Name: name}, api.Attr{Name: name, Value: "x"})
	}
	for _, s := range badChars {
		wrong = append(wrong, api.Attr{Name: "b", Value: s})
	}
	for _, s := range []string{"s", " ", "\xFF"} {
		wrong = append(wrong, api.Attr{Space: s, Name: "b", Value: "x"})
	}
	for _, a := range wrong {
		wantEverywhere(t, api.Node{Name: "a", Attrs: []api.Attr{a}}, false)
		for at := range 4 {
			sound := with(element("a", data("x")), "c", "1", "d", "", "e", "1")
			sound.Attrs = slices.Insert(sound.Attrs, at, a)
			wantEverywhere(t, sound, false)
		}
	}
}

// P9.2: names of attributes that differ a little, and equal ones next to each other and apart.
func TestAttributeNames(t *testing.T) {
	all := append([]string{"b", "B", "bb", "b:", ":b", "b:b", "x:b", "y:b"}, goodNames...)
	var pairs []string
	for _, name := range all {
		pairs = append(pairs, name, "1")
	}
	wantEverywhere(t, with(element("b"), pairs...), true)
	for i, name := range all {
		for _, value := range []string{"1", "2", ""} {
			wantInvalid(t, with(element("b"), append(slices.Clone(pairs), name, value)...))
			wantInvalid(t, with(element("b"), append([]string{name, value}, pairs...)...))
			wantInvalid(t, with(element("b"), slices.Insert(slices.Clone(pairs), 2*i, name, value)...))
			wantInvalid(t, with(element("b"), name, "1", name, value))
			wantInvalid(t, element("a", with(element("b"), name, "1", "other", "1", name, value)))
		}
		// The same names are permitted on other elements, and as the names of elements.
		wantDocument(t, with(element(name, with(element(name), name, "1"), with(element(name), name, "1")), name, "1"),
			"<"+name+" "+name+`="1"><`+name+" "+name+`="1"/><`+name+" "+name+`="1"/></`+name+">")
	}
	wantEverywhere(t, with(element("a"), "b", "", "b", ""), false)
	wantEverywhere(t, with(element("a"), "b", "1", "c", "1", "d", "1", "b", "2"), false)
}

// P9.2: character data with a single fault, anywhere in a tree.
func TestInvalidData(t *testing.T) {
	sound := data("x")
	wantEverywhere(t, sound, true)
	fault := func(change func(*api.Node)) { t.Helper(); wantEverywhere(t, changed(sound, change), false) }
	for _, s := range append([]string{""}, badChars...) {
		fault(func(n *api.Node) { n.Text = s })
	}
	for _, s := range []string{"s", " ", "\xFF"} {
		fault(func(n *api.Node) { n.Space = s })
		fault(func(n *api.Node) { n.Name = s })
	}
	for _, attr := range []api.Attr{{}, {Name: "b", Value: "1"}, {At: 1}} {
		fault(func(n *api.Node) { n.Attrs = []api.Attr{attr} })
	}
	for _, kid := range []api.Node{{}, data("y"), data(""), element("b"), sample()} {
		fault(func(n *api.Node) { n.Kids = []api.Node{kid} })
	}
	for _, kind := range append([]int{0}, kinds[2:]...) {
		fault(func(n *api.Node) { n.Kind = kind })
		fault(func(n *api.Node) { *n = api.Node{Kind: kind} })
	}
	fault(func(n *api.Node) { *n = strange(api.CharData) })
}

// P9.2: only an element is a root, whatever fields it has.
func TestInvalidRoots(t *testing.T) {
	wantInvalid(t, api.Node{})
	for _, kind := range kinds {
		wantInvalid(t, strange(kind))
		wantInvalid(t, api.Node{Kind: kind})
		if kind != api.Element {
			wantInvalid(t, api.Node{Kind: kind, Text: "x"})
			wantInvalid(t, api.Node{Kind: kind, Name: "a"})
			wantInvalid(t, changed(sample(), func(n *api.Node) { n.Kind = kind }))
		}
	}
}

// P9.2: depths up to the greatest one, and one more.
func TestDepths(t *testing.T) {
	const most = 100
	x, b := data("x"), with(element("b"), "c", "1")
	for depth := 1; depth <= most; depth++ {
		open, end := strings.Repeat("<n>", depth), strings.Repeat("</n>", depth)
		wantDocument(t, nested(depth), open[:len(open)-1]+"/>"+end[4:])
		wantDocument(t, nested(depth, x), open+"x"+end)
		if depth < most {
			wantDocument(t, nested(depth, b), open+`<b c="1"/>`+end)
			wantDocument(t, nested(depth, b, x, b), open+`<b c="1"/>x<b c="1"/>`+end)
		}
	}
	for _, inside := range [][]api.Node{{b}, {element("b", x)}, {x, b}, {b, x}, {x, b, x}, {b, b}} {
		wantInvalid(t, nested(most, inside...))
		wantInvalid(t, element("a", x, nested(most-1, inside...)))
		wantInvalid(t, element("a", nested(most-1), b, nested(most-1, inside...), x))
		wantInvalid(t, nested(50, b, nested(50, inside...), x))
	}
	wantInvalid(t, nested(most+1))
	wantInvalid(t, nested(most+1, x))
	wantInvalid(t, nested(1000))
	// Elements behind deep ones are as deep as without them.
	if n := element("a", nested(most-1), x, nested(most-1, x), b, nested(most-1)); !compare(t, n) || !compare(t, nested(50, nested(50), b, nested(50, x))) {
		t.Error("many deep elements are not valid")
	}
}

// P9.2: each rune below 3100 (hexadecimal), those around the bounds of the ranges, and every 251st, in names, values and character data.
func TestEveryRune(t *testing.T) {
	check := func(r rune) {
		s := string(r)
		for _, n := range []api.Node{element(s), element("a" + s), with(element("a"), s, ""), with(element("a"), "b"+s, ""), with(element("a"), "b", s), element("a", data(s)), element("a", element("b"), data("x"+s+"x"))} {
			compare(t, n)
		}
	}
	for r := range rune(0x3100) {
		check(r)
	}
	for _, bound := range []rune{0xD7FF, 0xE000, 0xF900, 0xFDCF, 0xFDF0, 0xFFFD, 0x10000, 0x1FFFF, 0xEFFFF, 0x10FFFD} {
		for r := bound - 2; r <= bound+2; r++ {
			check(r)
		}
	}
	for r := rune(0x3100); r <= 0x10FFFF; r += 251 {
		check(r)
	}
}

// P9.2: all strings of one byte and of two bytes, in names, values and character data.
func TestEveryByte(t *testing.T) {
	check := func(s string) {
		compare(t, element(s))
		compare(t, with(element("a", data(s)), "b", "", "c", ""))
		compare(t, with(element("a"), s, s))
		compare(t, with(element("a"), "b", s))
	}
	for i := range 256 {
		check(string([]byte{byte(i)}))
		for j := range 256 {
			check(string([]byte{byte(i), byte(j)}))
		}
	}
}

// documents has valid trees by their documents.
type documents map[string]api.Node

// add compares a tree, and checks that no other one has its document.
func (d documents) add(t *testing.T, n api.Node) {
	t.Helper()
	if !compare(t, n) {
		return
	}
	s, _ := xmlwrite.Write(n)
	if other, found := d[s]; found && !xmltree.Equal(n, other) {
		t.Errorf("%s and %s have the document %.1000q", show(n), show(other), s)
	}
	d[s] = n
}

// P9.2 to P9.4: all small trees of awkward parts.
func TestEverySmallTree(t *testing.T) {
	leaves := []api.Node{data("x"), data("<b/>"), data("&lt;"), data(" "), data(""), element("a"), element("b"), with(element("b"), "a", "1"), {Kind: 2, Name: "a"}}
	d := documents{}
	var middle []api.Node
	every(nil, leaves, 3, func(kids []api.Node) {
		n := element("a", kids...)
		for _, pairs := range [][]string{nil, {"b", "1"}, {"b", "1\" c=\"2"}, {"b", "1", "c", "2"}, {"c", "2", "b", "1"}, {"b", "1", "b", "2"}} {
			d.add(t, with(n, pairs...))
		}
		if len(kids) < 3 {
			middle = append(middle, n)
		}
	})
	every(nil, append(middle, data("x"), data("</a>")), 2, func(kids []api.Node) {
		d.add(t, element("a", kids...))
		if len(kids) == 1 {
			d.add(t, element("b", element("c"), element("b", kids...), data("y")))
		}
	})
	if len(d) < 2000 {
		t.Errorf("only %d of the trees are valid", len(d))
	}
}

// variants returns trees that differ from a tree in one field each, or in the number or the order of attributes or of kids.
func variants(n api.Node) []api.Node {
	var out []api.Node
	vary := func(change func(n *api.Node)) { out = append(out, changed(n, change)) }
	for _, s := range []string{"v", " ", "<", "\r", "\x00", "\xFF"} {
		vary(func(m *api.Node) { m.Space += s })
		vary(func(m *api.Node) { m.Name += s })
		vary(func(m *api.Node) { m.Text += s })
		for i := range n.Attrs {
			vary(func(m *api.Node) { m.Attrs[i].Space += s })
			vary(func(m *api.Node) { m.Attrs[i].Name += s })
			vary(func(m *api.Node) { m.Attrs[i].Value += s })
		}
		vary(func(m *api.Node) { m.Kids = append(m.Kids, data(s)) })
		vary(func(m *api.Node) { m.Kids = slices.Insert(m.Kids, 0, data(s)) })
	}
	vary(func(m *api.Node) { m.Kind++ })
	vary(func(m *api.Node) { m.Kind-- })
	vary(func(m *api.Node) { m.Name, m.Text = m.Text, m.Name })
	vary(func(m *api.Node) { m.Name = "" })
	vary(func(m *api.Node) { m.Text = "" })
	vary(func(m *api.Node) { m.Attrs = append(m.Attrs, api.Attr{Name: "w"}) })
	vary(func(m *api.Node) { m.Attrs = append(m.Attrs, api.Attr{}) })
	vary(func(m *api.Node) { m.Kids = append(m.Kids, element("w")) })
	vary(func(m *api.Node) { m.Kids = append(m.Kids, api.Node{}) })
	vary(func(m *api.Node) { m.Kids = []api.Node{element("w", m.Kids...)} })
	for i := range n.Attrs {
		vary(func(m *api.Node) { m.Attrs = slices.Delete(m.Attrs, i, i+1) })
		vary(func(m *api.Node) { m.Attrs = slices.Insert(m.Attrs, i, m.Attrs[0]) })
		vary(func(m *api.Node) { m.Attrs[0], m.Attrs[i] = m.Attrs[i], m.Attrs[0] })
		vary(func(m *api.Node) { m.Attrs[i].Name, m.Attrs[i].Value = m.Attrs[i].Value, m.Attrs[i].Name })
	}
	for i, k := range n.Kids {
		for _, v := range variants(k) {
			vary(func(m *api.Node) { m.Kids[i] = v })
		}
		vary(func(m *api.Node) { m.Kids = slices.Delete(m.Kids, i, i+1) })
		vary(func(m *api.Node) { m.Kids = slices.Insert(m.Kids, i, clone(k)) })
		vary(func(m *api.Node) { m.Kids[0], m.Kids[i] = m.Kids[i], m.Kids[0] })
		vary(func(m *api.Node) { m.Kids = slices.Concat(m.Kids[:i], k.Kids, m.Kids[i+1:]) })
	}
	return out
}

// moved returns a node with other offsets, which have neither the order nor the size of those of a document.
func moved(n api.Node, by int) api.Node {
	n = clone(n)
	n.At = by
	for i := range n.Attrs {
		n.Attrs[i].At = by - i - 1
	}
	for i, k := range n.Kids {
		n.Kids[i] = moved(k, by*3-i)
	}
	return n
}

// P9.2 to P9.4: trees that differ in two places at most.
func TestVariants(t *testing.T) {
	d := documents{}
	d.add(t, sample())
	for _, n := range variants(sample()) {
		d.add(t, n)
	}
	small := with(element("a", data("x"), with(element("b", data("y")), "d", "2")), "c", "1")
	for _, n := range variants(small) {
		for _, m := range variants(n) {
			d.add(t, m)
		}
	}
	if len(d) < 900 {
		t.Errorf("only %d of the trees are valid", len(d))
	}
}

// P9.2, P9.3: offsets make no difference.
func TestOffsets(t *testing.T) {
	for _, n := range append(variants(sample()), sample(), nested(100, data("x"))) {
		want, wantE := xmlwrite.Write(n)
		for _, by := range []int{1, -1, math.MaxInt, math.MinInt} {
			m := moved(n, by)
			if s, e := xmlwrite.Write(m); s != want || e != wantE || xmlwrite.Check(m) != wantE {
				t.Errorf("Write(%s) = %.1000q, %v; want %.1000q, %v", show(m), s, e, want, wantE)
			}
			compare(t, m)
		}
	}
}

// P9.4: trees drawn at random, built with the functions, are read back.
func TestDrawnTrees(t *testing.T) {
	r := rand.New(rand.NewPCG(9, 4))
	draw := func(from []string) string { return from[r.IntN(len(from))] }
	drawText := func() string { return draw(goodChars) + draw(goodChars) }
	var tree func(depth int) api.Node
	tree = func(depth int) api.Node {
		var kids []api.Node
		for range r.IntN(5) {
			if depth > 0 && r.IntN(2) == 0 {
				kids = append(kids, tree(depth-1))
			} else if len(kids) == 0 || kids[len(kids)-1].Kind == api.Element {
				kids = append(kids, xmlwrite.Text(drawText()))
			}
		}
		n := xmlwrite.Elem(draw(goodNames), kids...)
		for i := range r.IntN(4) {
			n = xmlwrite.With(n, draw(goodNames)+strconv.Itoa(i), drawText())
		}
		return n
	}
	d := documents{}
	for range 3000 {
		n := tree(4)
		d.add(t, n)
		if !compare(t, n) {
			t.Fatalf("%s is not valid", show(n))
		}
	}
	if len(d) < 2000 {
		t.Errorf("only %d documents", len(d))
	}
}

// parsed are documents that are not canonical.
var parsed = []string{
	"<a/>", "<a></a>", "<a ></a >", "\xEF\xBB\xBF<a/>", "<?xml version='1.0'?>\r\n<!-- x --> <a/>\n<?p?>", "<a\n b = '1'\tc=\"2\" />", "<a b='\"' c=\"'\"/>",
	"<a>x<!-- y -->z<![CDATA[<b/>]]>&#60;<?p?>&#x3e;</a>", "<a><![CDATA[]]></a>", "<a>\r\n\r\n&#13;&#10;</a>", "<a b='\r\n\t&#13;&#10;&#9; '>\t</a>", "<a>&amp;lt;&lt;&apos;&quot;</a>",
	"<p:a xmlns:p='u' p:b=''> <p:c/> </p:a>", "<a xmlns='u'><b xmlns=''/></a>", "<::><: :='>'/></::>", "<é>\U0010FFFF\uFEFF</é>", "<a b='&#x10FFFF;&#9;'>&#xFFFD;&#32;</a>",
	"<a>]]></a>", "<a><b>1</b><b c='2'>3<d/></b>4</a>", strings.Repeat("<a>", 100) + "x" + strings.Repeat("</a>", 100),
}

// P9.4: the tree of each document is valid, and its document is its own canonical document.
func TestParsedDocuments(t *testing.T) {
	for _, s := range append(slices.Clone(parsed), document(sample())) {
		n, _, e := xmltree.Parse(s)
		if e != api.OK {
			t.Fatalf("Parse(%q): %v", s, e)
		}
		if !compare(t, n) {
			t.Errorf("the tree of %q is not valid", s)
		}
	}
	n, _, _ := xmltree.Parse("<?xml version='1.0'?><a c = '1' b='\t&#9;&gt;'><![CDATA[<]]>&quot;<!-- --><b ></b ></a><!-- -->")
	wantDocument(t, n, `<a c="1" b=" &#9;&gt;">&lt;"<b/></a>`)
}

// overwrite changes everything in a node that others could share, also behind the ends of its lists.
func overwrite(n *api.Node) {
	attrs := n.Attrs[:cap(n.Attrs)]
	for i := range attrs {
		attrs[i] = api.Attr{Space: "z", Name: "z", Value: "z", At: -1}
	}
	for i := range n.Kids {
		overwrite(&n.Kids[i])
	}
	kids := n.Kids[:cap(n.Kids)]
	for i := range kids {
		kids[i] = api.Node{Kind: 9, Space: "z", Name: "z", Text: "z", At: -1}
	}
}

// roomy returns a copy of a node whose lists have room behind their ends.
func roomy(n api.Node) api.Node {
	n.Attrs = append(make([]api.Attr, 0, len(n.Attrs)+2), n.Attrs...)
	kids := make([]api.Node, 0, len(n.Kids)+2)
	for _, k := range n.Kids {
		kids = append(kids, roomy(k))
	}
	n.Kids = kids
	return n
}

// untouched reports whether nothing was written into the room of a roomy node.
func untouched(n api.Node) bool {
	return slices.Equal(n.Attrs[:cap(n.Attrs)][len(n.Attrs):], make([]api.Attr, 2)) &&
		slices.EqualFunc(n.Kids[:cap(n.Kids)][len(n.Kids):], make([]api.Node, 2), same) &&
		!slices.ContainsFunc(n.Kids, func(k api.Node) bool { return !untouched(k) })
}

// P9.1: what Elem returns is not changed with its arguments or another result, nor the other way round.
func TestElemSharesNothing(t *testing.T) {
	for _, kids := range [][]api.Node{nil, {element("b")}, {sample()}, {data("x"), sample(), data("y")}, {data(""), sample(), data("")}, {data("")}, {strange(0), strange(1), strange(2)}} {
		arguments := roomy(api.Node{Kids: kids})
		before, want := clone(arguments), elem("a", clone(arguments).Kids...)
		first, second := xmlwrite.Elem("a", arguments.Kids...), xmlwrite.Elem("a", arguments.Kids...)
		first.Attrs = append(first.Attrs, api.Attr{Name: "z"})
		overwrite(&first)
		if !same(arguments, before) || !untouched(arguments) || !same(second, want) {
			t.Errorf("%s became %s, with %s instead of %s", show(before), show(arguments), show(second), show(want))
		}
		overwrite(&arguments)
		if !same(second, want) {
			t.Errorf("%s became %s", show(want), show(second))
		}
	}
	// Two kids may be the same node, but the copies share nothing either.
	n := xmlwrite.Elem("a", slices.Repeat([]api.Node{sample()}, 3)...)
	overwrite(&n.Kids[1])
	if !same(n.Kids[0], sample()) || !same(n.Kids[2], sample()) {
		t.Errorf("the kids share memory: %s", show(n))
	}
}

// P9.1: what With returns is not changed with its arguments or another result, nor the other way round.
func TestWithSharesNothing(t *testing.T) {
	for _, n := range []api.Node{element("a"), with(element("a"), "b", "1"), sample(), element("a", sample(), sample()), strange(api.Element), strange(api.CharData), strange(2)} {
		for _, pairs := range [][]string{nil, {"y"}, {"y", "1"}, {"y", "1", "z", "2", "odd"}} {
			argument := roomy(n)
			pairs = append(make([]string, 0, 10), pairs...)
			want := with(clone(n), pairs...)
			first, second := xmlwrite.With(argument, pairs...), xmlwrite.With(argument, pairs...)
			overwrite(&first)
			if !same(argument, n) || !untouched(argument) || !same(second, want) {
				t.Errorf("%s became %s, with %s instead of %s", show(n), show(argument), show(second), show(want))
			}
			overwrite(&argument)
			clear(pairs)
			if !same(second, want) {
				t.Errorf("%s became %s", show(want), show(second))
			}
		}
	}
	// The results of calls for one element, and those of calls for such a result.
	a := xmlwrite.With(xmlwrite.Elem("a"), "w", "1", "x", "2", "y", "3")
	b, c := xmlwrite.With(a, "b", "1"), xmlwrite.With(a, "c", "1")
	d, e := xmlwrite.With(b, "d", "1"), xmlwrite.With(b, "e", "1")
	wantDocument(t, xmlwrite.Elem("r", a, b, c, d, e), `<r><a w="1" x="2" y="3"/><a w="1" x="2" y="3" b="1"/><a w="1" x="2" y="3" c="1"/><a w="1" x="2" y="3" b="1" d="1"/><a w="1" x="2" y="3" b="1" e="1"/></r>`)
	shared := element("b", data("x"), sample())
	n := xmlwrite.With(element("a", shared, shared), "b", "1")
	overwrite(&n.Kids[0])
	if !same(n.Kids[1], element("b", data("x"), sample())) {
		t.Errorf("the kids share memory: %s", show(n))
	}
}

// Rule 4: Check and Write change nothing in a tree, and what is beyond the length of a list makes no difference.
func TestBeyondLists(t *testing.T) {
	for _, n := range append(variants(sample()), sample()) {
		argument := roomy(n)
		compare(t, argument)
		if !untouched(argument) {
			t.Errorf("%s was written behind its end", show(n))
		}
	}
	attrs := with(element(""), "b", "1", "b", "2", "", "\x00").Attrs
	kids := []api.Node{data("x"), data("y"), {}, strange(0)}
	wantDocument(t, api.Node{Name: "a", Attrs: attrs[:1], Kids: kids[:1]}, `<a b="1">x</a>`)
	wantDocument(t, api.Node{Name: "a", Attrs: attrs[1:2], Kids: kids[1:2]}, `<a b="2">y</a>`)
	wantDocument(t, api.Node{Name: "a", Attrs: attrs[:0], Kids: kids[:0]}, `<a/>`)
	wantDocument(t, api.Node{Name: "a", Kids: []api.Node{{Kind: 1, Text: "x", Attrs: attrs[:0], Kids: kids[:0]}}}, `<a>x</a>`)
	compareElem(t, "a", kids[:1]...)
	compareElem(t, "a", kids[:0]...)
	compareWith(t, api.Node{Attrs: attrs[:1], Kids: kids[:2]}, "c", "3")
}

// P1: long names, values and character data, and many attributes.
func TestLongTrees(t *testing.T) {
	const count = 1 << 16
	long := strings.Repeat("x", 1<<20)
	wantDocument(t, with(element(long, data(long)), long, long), "<"+long+" "+long+`="`+long+`">`+long+"</"+long+">")
	for c, want := range map[string]string{"<": "&lt;", "\r": "&#13;", "&": "&amp;"} {
		s, escaped := strings.Repeat(c, count), strings.Repeat(want, count)
		wantDocument(t, with(element("a", data(s)), "b", s), `<a b="`+escaped+`">`+escaped+"</a>")
	}
	wantInvalid(t, element("a", data(long+"\x00")))
	var pairs []string
	var form strings.Builder
	for i := range count / 4 {
		pairs = append(pairs, "b"+strconv.Itoa(i), strconv.Itoa(i))
		form.WriteString(" b" + strconv.Itoa(i) + `="` + strconv.Itoa(i) + `"`)
	}
	n := xmlwrite.With(element("a"), pairs...)
	if s, e := xmlwrite.Write(n); s != firstLine+"<a"+form.String()+"/>\n" || e != api.OK {
		t.Errorf("the document of many attributes has %d bytes, %v", len(s), e)
	}
	for _, name := range []string{"b0", "b777", "b16383"} {
		m := xmlwrite.With(n, name, "")
		if s, e := xmlwrite.Write(m); s != "" || e != api.ErrInvalid || xmlwrite.Check(m) != e {
			t.Errorf("another attribute %s: %v", name, e)
		}
	}
}

// P1: many kids.
func TestWideTrees(t *testing.T) {
	const count = 1 << 16
	kids := []api.Node{data("x"), with(element("b", data("y")), "c", "1"), data(""), element("d")}
	n := xmlwrite.Elem("a", slices.Repeat(kids, count)...)
	want := strings.Repeat(`x<b c="1">y</b><d/>`, count)
	wantDocument(t, n, "<a>"+want+"</a>")
	wantDocument(t, xmlwrite.With(n, "e", "2"), `<a e="2">`+want+"</a>")
	wantInvalid(t, xmlwrite.Elem("a", append(n.Kids, api.Node{})...))
	wantInvalid(t, xmlwrite.Elem("a", append(n.Kids, data("x"), data("x"))...))
	if n := xmlwrite.Elem("a", slices.Repeat([]api.Node{data("")}, count)...); len(n.Kids) != 0 {
		t.Errorf("%d kids are left", len(n.Kids))
	}
}

// P1: nodes that are nested as deep as is permitted.
func TestDeepNodes(t *testing.T) {
	const deep = 1 << 16
	n := data("x")
	for range deep - 2 {
		n = api.Node{Name: "a", Attrs: []api.Attr{{Name: "b"}}, Kids: []api.Node{n, element("c")}}
	}
	for _, m := range []api.Node{xmlwrite.Elem("a", n), xmlwrite.With(n, "c", "1"), n} {
		if s, e := xmlwrite.Write(m); s != "" || e != api.ErrInvalid || xmlwrite.Check(m) != e {
			t.Errorf("Write = %d bytes, %v", len(s), e)
		}
	}
	if got := xmlwrite.Elem("a", n); !same(got, api.Node{Name: "a", Kids: []api.Node{n}}) {
		t.Error("Elem is wrong for a deep node")
	}
	if got := xmlwrite.With(n, "c", "1"); !same(got, with(n, "c", "1")) {
		t.Error("With is wrong for a deep node")
	}
}

// P1, P2: calls at the same time do not influence each other.
func TestConcurrentCalls(t *testing.T) {
	trees := append(variants(sample()), sample(), nested(100, data("x")), nested(101))
	kids := pool()
	var wg sync.WaitGroup
	for range 4 {
		wg.Go(func() {
			for range 10 {
				for _, n := range trees {
					compare(t, n)
					compareWith(t, n, "b", "1", "c")
				}
				compareElem(t, "a", kids...)
			}
		})
	}
	wg.Wait()
}

// FuzzWrite checks the promises on the trees of arbitrary documents, and on trees of arbitrary strings.
func FuzzWrite(f *testing.F) {
	for _, s := range parsed {
		f.Add(s, "a")
	}
	for _, s := range slices.Concat(goodNames, badNames, goodChars, badChars) {
		f.Add("<a/>", s)
	}
	f.Fuzz(func(t *testing.T, document, s string) {
		if n, _, e := xmltree.Parse(document); e == api.OK && !compare(t, n) {
			t.Errorf("the tree of %q is not valid", document)
		}
		compare(t, element("a", data(s), with(element("b", element("c"), data(s)), "d", s, "e", s)))
		compare(t, with(element(s, element("a")), "b", s))
		compare(t, with(element("a"), "b", "", s, s, "c", s))
	})
}

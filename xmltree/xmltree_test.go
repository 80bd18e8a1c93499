package xmltree_test

import (
	"math"
	"slices"
	"strings"
	"sync"
	"testing"

	"feedvault/api"
	"feedvault/xmltoken"
	"feedvault/xmltree"
)

const mark = "\xEF\xBB\xBF"

// element, data and attr are nodes and an attribute of a parsed document, and with gives an element attributes.
func element(at int, name string, kids ...api.Node) api.Node {
	return api.Node{Name: name, Kids: kids, At: at}
}

func data(at int, s string) api.Node {
	return api.Node{Kind: api.CharData, Text: s, At: at}
}

func attr(at int, name, value string) api.Attr {
	return api.Attr{Name: name, Value: value, At: at}
}

func with(n api.Node, attrs ...api.Attr) api.Node {
	n.Attrs = attrs
	return n
}

func wantTree(t *testing.T, s string, want api.Node) {
	t.Helper()
	got, at, e := xmltree.Parse(s)
	if show(got, true) != show(want, true) || at != len(s) || e != api.OK {
		t.Errorf("Parse(%.300q) = %.2000s, %d, %v; want %.2000s, %d", s, show(got, true), at, e, show(want, true), len(s))
	}
}

func wantError(t *testing.T, s string, at int, want api.Errno) {
	t.Helper()
	got, gotAt, e := xmltree.Parse(s)
	if show(got, true) != show(api.Node{}, true) || gotAt != at || e != want {
		t.Errorf("Parse(%.300q) = %.2000s, %d, %v; want %d, %v", s, show(got, true), gotAt, e, at, want)
	}
}

// compare compares Parse with its definition, and checks what follows from the promises. It returns the error of Parse.
func compare(t *testing.T, s string) api.Errno {
	t.Helper()
	want, at, e := parse(s)
	if e != api.OK {
		wantError(t, s, at, e)
	} else {
		wantTree(t, s, want)
		compareNode(t, want)
		wantProper(t, want)
	}
	if at < 0 || at > len(s) {
		t.Errorf("Parse(%q): the offset is %d", s, at)
	}
	return e
}

// compareNode compares the functions for nodes with their definitions.
func compareNode(t *testing.T, n api.Node) {
	t.Helper()
	before := show(n, true)
	if got, want := xmltree.Text(n), textOf(n); got != want {
		t.Errorf("Text(%.500s) = %.200q; want %.200q", before, got, want)
	}
	if got, want := xmltree.Depth(n), depthOf(n); got != want {
		t.Errorf("Depth(%.500s) = %d; want %d", before, got, want)
	}
	stripped := xmltree.Strip(n)
	if show(stripped, false) != show(n, false) || !allZero(stripped) {
		t.Errorf("Strip(%.500s) = %.500s", before, show(stripped, true))
	}
	if !xmltree.Equal(n, stripped) || !xmltree.Equal(stripped, n) || !xmltree.Equal(n, n) {
		t.Errorf("%.500s does not equal itself without offsets", before)
	}
	if show(n, true) != before {
		t.Errorf("%.500s became %.500s", before, show(n, true))
	}
}

// allZero reports whether all offsets of a node are 0.
func allZero(n api.Node) bool {
	return n.At == 0 &&
		!slices.ContainsFunc(n.Attrs, func(a api.Attr) bool { return a.At != 0 }) &&
		!slices.ContainsFunc(n.Kids, func(k api.Node) bool { return !allZero(k) })
}

// wantProper checks P7.4 for the tree of a document.
func wantProper(t *testing.T, n api.Node) {
	t.Helper()
	if xmltree.Depth(n) > api.MaxNest {
		t.Errorf("the depth is %d", xmltree.Depth(n))
	}
	for i, k := range n.Kids {
		if k.Kind == api.CharData && (k.Text == "" || i > 0 && n.Kids[i-1].Kind == api.CharData) {
			t.Errorf("the kid %d of %.500s is %.500s", i, show(n, true), show(k, true))
		}
		if k.At <= n.At || i > 0 && k.At <= n.Kids[i-1].At {
			t.Errorf("the offset of the kid %d of %.500s is %d", i, show(n, true), k.At)
		}
		wantProper(t, k)
	}
}

// nested returns a document of n elements within each other around another part.
func nested(n int, inside string) string {
	return strings.Repeat("<a>", n) + inside + strings.Repeat("</a>", n)
}

// nestedTree returns the tree of such a document around a node of it.
func nestedTree(n int, inside ...api.Node) api.Node {
	for i := range n {
		inside = []api.Node{element(3*(n-1-i), "a", inside...)}
	}
	return inside[0]
}

// P7.1: ordinary documents, and the edge cases of their elements and attributes.
func TestDocuments(t *testing.T) {
	for s, want := range map[string]api.Node{
		"<a/>":                         element(0, "a"),
		"<a />":                        element(0, "a"),
		"<a></a>":                      element(0, "a"),
		"<a\n></a\t>":                  element(0, "a"),
		"<:a.b-1/>":                    element(0, ":a.b-1"),
		"<é></é>":                      element(0, "é"),
		mark + "<a/>":                  element(3, "a"),
		"<a>x</a>":                     element(0, "a", data(3, "x")),
		"<a> </a>":                     element(0, "a", data(3, " ")),
		"<a>\r\n</a>":                  element(0, "a", data(3, "\n")),
		"<a><b/></a>":                  element(0, "a", element(3, "b")),
		"<a><b></b></a>":               element(0, "a", element(3, "b")),
		"<a><b/><b></b><b /></a>":      element(0, "a", element(3, "b"), element(7, "b"), element(14, "b")),
		"<a>x<b/>y</a>":                element(0, "a", data(3, "x"), element(4, "b"), data(8, "y")),
		"<a>x<b/>y<c/>z</a>":           element(0, "a", data(3, "x"), element(4, "b"), data(8, "y"), element(9, "c"), data(13, "z")),
		"<a>x<b>y</b>z</a>":            element(0, "a", data(3, "x"), element(4, "b", data(7, "y")), data(12, "z")),
		"<a><b>x</b><c>y</c></a>":      element(0, "a", element(3, "b", data(6, "x")), element(11, "c", data(14, "y"))),
		"<a> <b/> </a>":                element(0, "a", data(3, " "), element(4, "b"), data(8, " ")),
		"<a>x<b><c/></b>y</a>":         element(0, "a", data(3, "x"), element(4, "b", element(7, "c")), data(15, "y")),
		"<a><b><c>x</c></b></a>":       element(0, "a", element(3, "b", element(6, "c", data(9, "x")))),
		"<a><a><a>x</a></a></a>":       element(0, "a", element(3, "a", element(6, "a", data(9, "x")))),
		"<a><a/><a><a/></a></a>":       element(0, "a", element(3, "a"), element(7, "a", element(10, "a"))),
		"<a>1<a>2</a>3<a>4</a>5</a>":   element(0, "a", data(3, "1"), element(4, "a", data(7, "2")), data(12, "3"), element(13, "a", data(16, "4")), data(21, "5")),
		"<a><b><a/></b></a>":           element(0, "a", element(3, "b", element(6, "a"))),
		"<x:a><y:a/></x:a>":            element(0, "x:a", element(5, "y:a")),
		"<a b='1'/>":                   with(element(0, "a"), attr(3, "b", "1")),
		"<a b='1' c=\"2\"></a>":        with(element(0, "a"), attr(3, "b", "1"), attr(9, "c", "2")),
		"<a c='' b='&lt;\n'>x</a>":     with(element(0, "a", data(18, "x")), attr(3, "c", ""), attr(8, "b", "< ")),
		"<a><b c='1'/>x<b c='2'/></a>": element(0, "a", with(element(3, "b"), attr(6, "c", "1")), data(13, "x"), with(element(14, "b"), attr(17, "c", "2"))),
		"<a xmlns='u'><x:b xmlns:x='v' x:c='d'/></a>": with(element(0, "a", with(element(13, "x:b"), attr(18, "xmlns:x", "v"), attr(30, "x:c", "d"))), attr(3, "xmlns", "u")),
		"<a b='1'><a b='2'><a b='3'/></a></a>":        with(element(0, "a", with(element(9, "a", with(element(18, "a"), attr(21, "b", "3"))), attr(12, "b", "2"))), attr(3, "b", "1")),
	} {
		wantTree(t, s, want)
		compare(t, s)
	}
}

// P7.1: what may be around the root.
func TestAroundTheRoot(t *testing.T) {
	around := []string{"", " ", "\n", "\t\r\n ", "\r", "<!-- x -->", "<!----><!---->", "<?p?>", "<?xml version='1.0'?>", " <!--<b>--> <?</a>?>\n", "&#32;", "&#x9;&#10;&#13;", "<![CDATA[]]>", "<![CDATA[ ]]>", " <![CDATA[\n]]>&#32;"}
	for _, before := range around {
		for _, after := range around {
			n := len(before)
			wantTree(t, before+"<a/>"+after, element(n, "a"))
			wantTree(t, before+"<a></a>"+after, element(n, "a"))
			wantTree(t, before+"<a b='1'>x<b>y</b></a>"+after, with(element(n, "a", data(n+9, "x"), element(n+10, "b", data(n+13, "y"))), attr(n+3, "b", "1")))
			wantTree(t, mark+before+"<a/>"+after, element(n+3, "a"))
			wantError(t, before+after, len(before+after), api.ErrEOF)
			wantError(t, mark+before+after, len(mark+before+after), api.ErrEOF)
			wantError(t, before+"<a>"+after, len(before+"<a>"+after), api.ErrEOF)
		}
	}
}

// P7.1: character data in several tokens forms one node, at the offset of the first of them.
func TestCharacterData(t *testing.T) {
	const none = "<![CDATA[]]>"
	for s, want := range map[string][]api.Node{
		"":                           nil,
		"<!---->":                    nil,
		"<?p?>":                      nil,
		none:                         nil,
		none + "<!---->" + none:      nil,
		"x<!-- -->z":                 {data(3, "xz")},
		"x<?p?>z":                    {data(3, "xz")},
		"x<![CDATA[y]]>z":            {data(3, "xyz")},
		"x" + none + "z":             {data(3, "xz")},
		"x" + none:                   {data(3, "x")},
		none + "x":                   {data(15, "x")},
		none + none + "x" + none:     {data(27, "x")},
		"<!---->x":                   {data(10, "x")},
		"<?p?>x<?p?>":                {data(8, "x")},
		"<![CDATA[x]]>":              {data(3, "x")},
		"<![CDATA[x]]><![CDATA[y]]>": {data(3, "xy")},
		"<!----><![CDATA[x]]>y":      {data(10, "xy")},
		"<![CDATA[&lt;]]>&lt;":       {data(3, "&lt;<")},
		"<![CDATA[<b/>]]><b/>":       {data(3, "<b/>"), element(19, "b")},
		" <!----> ":                  {data(3, "  ")},
		"&#32;<!---->&amp;":          {data(3, " &")},
		"\r<!---->\n":                {data(3, "\n\n")},
		"a<!---->b<?p?>c<![CDATA[d]]><!-- --><?q?><!---->e": {data(3, "abcde")},
		"x<b/>y":                                {data(3, "x"), element(4, "b"), data(8, "y")},
		"x<!----><b/><!---->y":                  {data(3, "x"), element(11, "b"), data(22, "y")},
		"x<b/><!----><c/>y":                     {data(3, "x"), element(4, "b"), element(15, "c"), data(19, "y")},
		"x<b></b>" + none + "y":                 {data(3, "x"), element(4, "b"), data(23, "y")},
		none + "<b/>" + none:                    {element(15, "b")},
		"<b/>" + none + "<b/>":                  {element(3, "b"), element(19, "b")},
		"x<!---->y<b>z<!---->u</b>v<?p?>w":      {data(3, "xy"), element(12, "b", data(15, "zu")), data(28, "vw")},
		"<b>x</b>y<b>z</b>":                     {element(3, "b", data(6, "x")), data(11, "y"), element(12, "b", data(15, "z"))},
		"<b>x<!----></b><!---->y":               {element(3, "b", data(6, "x")), data(25, "y")},
		"x<b><!---->y</b>":                      {data(3, "x"), element(4, "b", data(14, "y"))},
		"<b><c>x</c></b>y":                      {element(3, "b", element(6, "c", data(9, "x"))), data(18, "y")},
		"<b><c>x</c>y</b>z":                     {element(3, "b", element(6, "c", data(9, "x")), data(14, "y")), data(19, "z")},
		"<b>" + none + "</b>":                   {element(3, "b")},
		"]]><!---->]]>":                         {data(3, "]]>]]>")},
		"é<!---->€<![CDATA[\U0001F600]]>\uFEFF": {data(3, "é€\U0001F600\uFEFF")},
	} {
		wantTree(t, "<a>"+s+"</a>", element(0, "a", want...))
		wantTree(t, "<a>"+s+"</a> ", element(0, "a", want...))
		compare(t, "<a><a>"+s+"</a>"+s+"</a>")
	}
}

// P7.1: depths up to the greatest one, and one more.
func TestDepths(t *testing.T) {
	const most = 100
	for n := 1; n <= most; n++ {
		wantTree(t, nested(n, ""), nestedTree(n))
		wantTree(t, nested(n, "x"), nestedTree(n, data(3*n, "x")))
		if n < most {
			wantTree(t, nested(n, "<b/>"), nestedTree(n, element(3*n, "b")))
			wantTree(t, nested(n, "<b/><b/>"), nestedTree(n, element(3*n, "b"), element(3*n+4, "b")))
		}
		if root, _, _ := xmltree.Parse(nested(n, "x")); xmltree.Depth(root) != n {
			t.Errorf("the depth of %d elements is %d", n, xmltree.Depth(root))
		}
	}
	deepest := nested(most-1, "")
	for _, inside := range []string{"<b>", "<b/>", "<b></b>", "<b x='1'/>"} {
		wantError(t, nested(most, inside), 3*most, api.ErrDepth)
		wantError(t, nested(most, "x"+inside), 3*most+1, api.ErrDepth)
		wantError(t, nested(most, "<!---->"+inside+inside), 3*most+7, api.ErrDepth)
		wantError(t, strings.Repeat("<a>", most)+inside, 3*most, api.ErrDepth)
		// A deep element behind a closed deep one is as deep as if that were not there.
		before := "<a>" + deepest + deepest
		wantError(t, before+nested(most-1, inside), len(before)+3*(most-1), api.ErrDepth)
	}
	wantError(t, nested(101, ""), 300, api.ErrDepth)
	wantError(t, nested(1000, ""), 300, api.ErrDepth)
	wantError(t, nested(100, "</a><a><a>"), 307, api.ErrDepth)
	wantError(t, strings.Repeat("<a>", 100), 300, api.ErrEOF)
	wantError(t, strings.Repeat("<a>", 101), 300, api.ErrDepth)
	for _, s := range []string{
		"<a>" + deepest + deepest + "</a>", "<a>" + deepest + "x" + deepest + "<b/></a>", "<a>" + strings.Repeat(deepest, 30) + "</a>",
		nested(most-1, "<b/><b></b><b>x</b>"), nested(most-1, strings.Repeat("<b/>", 300)), nested(50, nested(50, "")+nested(49, "x<b/>")), "<a>" + strings.Repeat("<b/>", 300) + deepest + "</a>",
	} {
		if e := compare(t, s); e != api.OK {
			t.Errorf("Parse(%q): %v", s, e)
		}
	}
}

// P7.1: depth is not exceeded by what follows within the deepest elements; all short insides of elements at the last depths.
func TestEveryShortInside(t *testing.T) {
	for depth := 98; depth <= 101; depth++ {
		before := strings.Repeat("<a>", depth)
		every("", []string{"<a>", "</a>", "<a/>", "x", "</b>", "<b>"}, 3, func(s string) bool {
			compare(t, before+s)
			for more := depth - 3; more <= depth+3; more++ {
				compare(t, before+s+strings.Repeat("</a>", more))
			}
			return !t.Failed()
		})
	}
}

// wrongTrees are documents that become wrong at an offset, whatever follows, as long as it consists of tokens.
var wrongTrees = []struct {
	s  string
	at int
	e  api.Errno
}{
	{"</a>", 0, api.ErrMismatch}, {" </a>", 1, api.ErrMismatch}, {"<!----></a>", 7, api.ErrMismatch}, {mark + "</a>", 3, api.ErrMismatch},
	{"<a/></a>", 4, api.ErrMismatch}, {"<a></a></a>", 7, api.ErrMismatch}, {"<a/> </b>", 5, api.ErrMismatch}, {"<a><b/></a></b>", 11, api.ErrMismatch},
	{"<a></b>", 3, api.ErrMismatch}, {"<a>x</b>", 4, api.ErrMismatch}, {"<a></A>", 3, api.ErrMismatch}, {"<a></aa>", 3, api.ErrMismatch}, {"<aa></a>", 4, api.ErrMismatch}, {"<x:a></a>", 5, api.ErrMismatch}, {"<a></x:a>", 3, api.ErrMismatch}, {"<x:a></y:a>", 5, api.ErrMismatch},
	{"<a><b></a>", 6, api.ErrMismatch}, {"<a><b></a></b>", 6, api.ErrMismatch}, {"<a><b><c></a>", 9, api.ErrMismatch}, {"<a><b><c></b>", 9, api.ErrMismatch}, {"<a><b><c/></c>", 10, api.ErrMismatch}, {"<a><b></b></b>", 10, api.ErrMismatch}, {"<a><b/></b>", 7, api.ErrMismatch}, {"<a b='1'></b>", 9, api.ErrMismatch},
	{"x<a/>", 0, api.ErrSyntax}, {"x", 0, api.ErrSyntax}, {" x <a/>", 0, api.ErrSyntax}, {"<!-- -->x", 8, api.ErrSyntax}, {"<?xml?>\nx<a/>", 7, api.ErrSyntax}, {mark + "x", 3, api.ErrSyntax}, {" <!---->x", 8, api.ErrSyntax}, {mark + mark + "<a/>", 3, api.ErrSyntax}, {"\u00A0", 0, api.ErrSyntax}, {"\u0085<a/>", 0, api.ErrSyntax}, {"\u2028<a/>", 0, api.ErrSyntax},
	{"<![CDATA[x]]>", 0, api.ErrSyntax}, {" <![CDATA[x]]>", 1, api.ErrSyntax}, {"<![CDATA[ x ]]><a/>", 0, api.ErrSyntax}, {"<![CDATA[&#32;]]><a/>", 0, api.ErrSyntax}, {"<![CDATA[<a/>]]>", 0, api.ErrSyntax}, {"<![CDATA[]]>x", 12, api.ErrSyntax},
	{"&#120;<a/>", 0, api.ErrSyntax}, {"&lt;a/>", 0, api.ErrSyntax}, {"  &amp; ", 0, api.ErrSyntax}, {"&#32;&#160;", 0, api.ErrSyntax},
	{"<a/>x", 4, api.ErrSyntax}, {"<a></a>x", 7, api.ErrSyntax}, {"<a/> x", 4, api.ErrSyntax}, {"<a/>\n<!---->\nx", 12, api.ErrSyntax}, {"<a/> <![CDATA[]]>x", 17, api.ErrSyntax}, {"<a>x</a>y", 8, api.ErrSyntax},
	{"<a/><![CDATA[x]]>", 4, api.ErrSyntax}, {"<a/> <![CDATA[x]]>", 5, api.ErrSyntax}, {"<a/><![CDATA[ ]]>\n<![CDATA[ x]]>", 18, api.ErrSyntax}, {"<a/>&#120;", 4, api.ErrSyntax}, {"<a/> &amp;", 4, api.ErrSyntax}, {"<a><b/></a>&lt;b/>", 11, api.ErrSyntax}, {"<a/>\uFEFF", 4, api.ErrSyntax},
	{"<a/><b/>", 4, api.ErrTrailing}, {"<a/><a/>", 4, api.ErrTrailing}, {"<a></a><a>", 7, api.ErrTrailing}, {"<a/> <!----> <b x='1'>", 13, api.ErrTrailing}, {"<a><b/></a><b></b>", 11, api.ErrTrailing}, {"<a>x</a>\n<a/>", 9, api.ErrTrailing}, {mark + "<a/><a/>", 7, api.ErrTrailing},
	{strings.Repeat("<a>", 101), 300, api.ErrDepth}, {strings.Repeat("<a>", 100) + "<b/>", 300, api.ErrDepth}, {strings.Repeat("<a>", 100) + "</a><b><c>", 307, api.ErrDepth}, {"<b/>" + strings.Repeat("<a>", 101), 4, api.ErrTrailing},
	{nested(100, "") + "<a>", 700, api.ErrTrailing}, {nested(100, "") + "</a>", 700, api.ErrMismatch}, {strings.Repeat("<a>", 100) + "</b>", 300, api.ErrMismatch},
}

// rightParts are parts that consist of tokens and of what is ignored.
var rightParts = []string{"", " ", "x", "\r\n", "<a>", "</a>", "<b>", "</b>", "<a/>", "<b/>", "<a></a>", "<!-- -->", "<?p?>", "<![CDATA[]]>", "<![CDATA[y]]>", "&lt;", "<c d='1'/>"}

// P7.1: the first error counts, whatever follows.
func TestFirstError(t *testing.T) {
	for _, c := range wrongTrees {
		for _, after := range rightParts {
			wantError(t, c.s+after, c.at, c.e)
		}
		for _, after := range wrongTrees {
			wantError(t, c.s+"<!---->"+after.s, c.at, c.e)
		}
		compare(t, c.s)
	}
}

// P7.1: documents that end too soon, in open elements or before the root.
func TestEndsTooSoon(t *testing.T) {
	for _, s := range []string{
		"", mark, " ", "\t\r\n ", "<!-- x -->", "<!-- <a/> -->", "<?xml version='1.0'?>", "<?a?><!--b-->\n", " <!-- x -->", "&#32;", "<![CDATA[]]>", "<![CDATA[ ]]>",
		"<a>", "<a> ", "<a>x", "<a><!-- </a> -->", "<a><?</a>?>", "<a><![CDATA[</a>]]>", "<a b='/a'>", "<a>&lt;/a>", "<a><b/>", "<a><b/> ", "<a><b></b>", "<a><b>", "<a><b></b><c>", "<a><a></a>", "<a><a/>", "<a><b><c></c>x</b>y", mark + "<a>", "<a><b><a></a></b>",
	} {
		wantError(t, s, len(s), api.ErrEOF)
	}
	for n := 1; n <= 100; n++ {
		for open := 1; open <= n; open++ {
			s := strings.Repeat("<a>", n) + strings.Repeat("</a>", n-open)
			wantError(t, s, len(s), api.ErrEOF)
		}
	}
}

// wrongTokens are parts with errors of each kind that Tokens finds.
var wrongTokens = []struct {
	s  string
	at int
	e  api.Errno
}{
	{"\xFF", 0, api.ErrUTF8}, {"<a>\xC3</a>", 3, api.ErrUTF8}, {"\x00", 0, api.ErrChar}, {"<a/>\uFFFE", 4, api.ErrChar}, {"<a", 0, api.ErrEOF}, {"<a/><b x='", 4, api.ErrEOF}, {"</a", 0, api.ErrEOF}, {"<", 0, api.ErrEOF}, {"<!--", 0, api.ErrEOF}, {"<?p", 0, api.ErrEOF}, {"<a><![CDATA[x", 3, api.ErrEOF},
	{"<!DOCTYPE a>", 0, api.ErrDoctype}, {"<a/><!DOCTYPE", 4, api.ErrDoctype}, {"<!a>", 0, api.ErrSyntax}, {"<1>", 1, api.ErrSyntax}, {"<a b=1>", 5, api.ErrSyntax}, {"</a b>", 4, api.ErrSyntax}, {"<a b='<'/>", 6, api.ErrSyntax}, {"&", 0, api.ErrReference}, {"<a>&x;</a>", 3, api.ErrReference}, {"<a b='&#0;'/>", 6, api.ErrReference}, {"<a b='1' b='2'/>", 9, api.ErrDuplicate},
}

// P7.1: an error of Tokens precedes those of the tree, even if it is found behind them.
func TestErrorsOfTokens(t *testing.T) {
	for _, c := range wrongTokens {
		for _, before := range rightParts {
			wantError(t, before+c.s, len(before)+c.at, c.e)
		}
		for _, before := range wrongTrees {
			wantError(t, before.s+c.s, len(before.s)+c.at, c.e)
		}
		for _, before := range []string{"<a><b>", "<a></a>", "<a></a>\n", nested(100, "<b>"), nested(101, "")} {
			wantError(t, before+c.s, len(before)+c.at, c.e)
		}
	}
}

// every calls f with a string and with all that extend it by at most n of the parts. Strings for which f returns false are not extended.
func every(s string, parts []string, n int, f func(string) bool) {
	if !f(s) || n == 0 {
		return
	}
	for _, p := range parts {
		every(s+p, parts, n-1, f)
	}
}

// P7.1 to P7.4: all short documents of awkward parts.
func TestEveryShortDocument(t *testing.T) {
	for _, c := range []struct {
		first []string
		parts []string
		n     int
	}{
		{[]string{"", mark}, []string{"<a>", "</a>", "<b>", "</b>", "<a/>", "<b c='1'/>", "x", " ", "<!---->", "<![CDATA[]]>", "<![CDATA[y]]>", "&#13;", "<!DOCTYPE>", "&"}, 4},
		{[]string{""}, []string{"<a>", "</a>", "<b>", "</b>", "<b/>", "x", " "}, 6},
		{[]string{"<a>", "<a><b>", "<a/>", "<a></a>"}, []string{"<a>", "</a>", "</b>", "<b/>", "x", "\n", "<?p?>", "<![CDATA[ ]]>"}, 5},
		{[]string{"<a>"}, []string{"</a>", "<b>", "</b>", "x", "<!---->", "<![CDATA[]]>"}, 6},
	} {
		for _, first := range c.first {
			every(first, c.parts, c.n, func(s string) bool {
				e := compare(t, s)
				return !t.Failed() && e != api.ErrDoctype && e != api.ErrReference
			})
		}
	}
}

// samples have nodes of all kinds.
var samples = []string{
	mark + "<?xml version='1.0'?>\r\n<a x='1'> <b y='2' z=\"&lt;\">t</b>u<![CDATA[&]]><c/><!-- d -->v</a>\n",
	"<a>x<!-- y -->z<b/></a>", "<a><b><c/></b></a>", "<a><a></a></a>", "<a/><!---->", "<é>é</é>", "<a>&#13;<b/>\r\n</a>", "<a></b>", "<a/><b/>", "x<a/>", "<a/>x",
}

// P7.1: any byte in place of any other one, or before it, and each part left out or doubled.
func TestEveryChange(t *testing.T) {
	for _, s := range samples {
		for i := range len(s) + 1 {
			for b := range 256 {
				compare(t, s[:i]+string([]byte{byte(b)})+s[i:])
				if i < len(s) {
					compare(t, s[:i]+string([]byte{byte(b)})+s[i+1:])
				}
			}
			for _, part := range rightParts {
				compare(t, s[:i]+part+s[i:])
			}
			for j := i; j <= len(s); j++ {
				compare(t, s[:i]+s[j:])
				compare(t, s[:j]+s[i:])
			}
		}
	}
}

// kinds are kinds of nodes that are there, and some that are not.
var kinds = []int{api.Element, api.CharData, 2, -1, 257, math.MaxInt, math.MinInt}

// P7.2: nodes of both kinds, and those that no document has.
func TestTextAndDepth(t *testing.T) {
	x, y := data(1, "x"), data(2, "y")
	for _, c := range []struct {
		n     api.Node
		text  string
		depth int
	}{
		{api.Node{}, "", 1},
		{data(0, ""), "", 0},
		{x, "x", 0},
		{data(0, "a\xFF\x00"), "a\xFF\x00", 0},
		{element(0, "a"), "", 1},
		{with(element(0, "a"), attr(0, "b", "c")), "", 1},
		{element(0, "a", x), "x", 1},
		{element(0, "a", x, y), "xy", 1},
		{element(0, "a", y, x, data(0, ""), x), "yxx", 1},
		{element(0, "a", element(0, "b")), "", 2},
		{element(0, "a", x, element(0, "b", y), x), "xyx", 2},
		{element(0, "a", element(0, "b", x), element(0, "c", y, element(0, "d", x)), y), "xyxy", 3},
		{element(0, "a", element(0, "b", element(0, "c", element(0, "d"))), element(0, "e")), "", 4},
		{element(0, "a", element(0, "e"), element(0, "b", element(0, "c", x))), "x", 3},
		// The kids of character data, and the text of an element, do not count.
		{api.Node{Kind: api.CharData, Text: "x", Kids: []api.Node{y, element(0, "a", element(0, "b", y))}}, "x", 0},
		{api.Node{Kind: api.CharData, Kids: []api.Node{y}}, "", 0},
		{api.Node{Name: "a", Text: "z", Kids: []api.Node{x}}, "x", 1},
		{element(0, "a", api.Node{Kind: api.CharData, Text: "x", Kids: []api.Node{element(0, "b", y)}}, y), "xy", 1},
		{element(0, "a", api.Node{Text: "z"}, y), "y", 2},
	} {
		for _, kind := range kinds {
			n := c.n
			if n.Kind != api.CharData && kind != api.CharData {
				n.Kind = kind
			}
			if got := xmltree.Text(n); got != c.text {
				t.Errorf("Text(%s) = %q; want %q", show(n, true), got, c.text)
			}
			if got := xmltree.Depth(n); got != c.depth {
				t.Errorf("Depth(%s) = %d; want %d", show(n, true), got, c.depth)
			}
			compareNode(t, n)
		}
	}
}

// variants returns nodes that differ from a node in one field each, in the number or in the order of attributes or of kids.
func variants(n api.Node) []api.Node {
	var out []api.Node
	vary := func(change func(n *api.Node)) {
		m := xmltree.Strip(n)
		change(&m)
		out = append(out, m)
	}
	vary(func(m *api.Node) { m.Kind++ })
	vary(func(m *api.Node) { m.Kind-- })
	vary(func(m *api.Node) { m.Space += "v" })
	vary(func(m *api.Node) { m.Name += "v" })
	vary(func(m *api.Node) { m.Text += "v" })
	vary(func(m *api.Node) { m.Attrs = append(m.Attrs, api.Attr{}) })
	vary(func(m *api.Node) { m.Attrs = append([]api.Attr{{}}, m.Attrs...) })
	vary(func(m *api.Node) { m.Kids = append(m.Kids, api.Node{}) })
	vary(func(m *api.Node) { m.Kids = append(m.Kids, data(0, "")) })
	vary(func(m *api.Node) { m.Kids = append([]api.Node{{}}, m.Kids...) })
	for i := range n.Attrs {
		vary(func(m *api.Node) { m.Attrs[i].Space += "v" })
		vary(func(m *api.Node) { m.Attrs[i].Name += "v" })
		vary(func(m *api.Node) { m.Attrs[i].Value += "v" })
		vary(func(m *api.Node) { m.Attrs = slices.Delete(m.Attrs, i, i+1) })
		vary(func(m *api.Node) { m.Attrs[0], m.Attrs[i] = m.Attrs[i], m.Attrs[0] })
	}
	for i, k := range n.Kids {
		for _, v := range variants(k) {
			vary(func(m *api.Node) { m.Kids[i] = v })
		}
		vary(func(m *api.Node) { m.Kids = slices.Delete(m.Kids, i, i+1) })
		vary(func(m *api.Node) { m.Kids[0], m.Kids[i] = m.Kids[i], m.Kids[0] })
		vary(func(m *api.Node) { m.Kids = slices.Insert(m.Kids, i, k) })
	}
	return out
}

// moved returns a node with other offsets.
func moved(n api.Node, by int) api.Node {
	n = xmltree.Strip(n)
	n.At = by
	for i := range n.Attrs {
		n.Attrs[i].At = by * (i + 2)
	}
	for i, k := range n.Kids {
		n.Kids[i] = moved(k, by*3+i)
	}
	return n
}

// trees are nodes with all fields, of documents and others.
func trees(t *testing.T) []api.Node {
	x, y := data(4, "x"), data(5, "y")
	a := with(element(1, "a", x, with(element(2, "b", y), api.Attr{Space: "s", Name: "n", Value: "v", At: 3}), element(6, "c", element(7, "d", data(8, "x")))), attr(9, "p", "1"), attr(10, "q", "2"))
	a.Space = "s"
	strange := api.Node{Kind: api.CharData, Space: "s", Name: "n", Text: "x", At: 1, Attrs: []api.Attr{{}, {Space: "s"}, {Name: "n", At: 2}, {Value: "v"}}, Kids: []api.Node{x, x, {Kind: 2, Text: "\xFF"}, {}}}
	out := []api.Node{{}, data(0, ""), x, element(0, "a"), element(0, "a", x, y), with(element(0, "a"), attr(1, "b", "1"), attr(2, "b", "1")), a, strange, element(1, "a", strange, a)}
	for _, s := range samples {
		if n, _, e := xmltree.Parse(s); e == api.OK {
			out = append(out, n)
		}
	}
	if len(out) < 14 {
		t.Fatalf("only %d trees", len(out))
	}
	return out
}

// P7.3: two nodes are equal exactly if they look the same without their offsets, at the root and deep within.
func TestEqual(t *testing.T) {
	var all []api.Node
	for _, n := range trees(t) {
		all = append(all, n, moved(n, 1), moved(n, -7))
		all = append(all, variants(n)...)
	}
	looks := make([]string, len(all))
	for i, n := range all {
		looks[i] = show(n, false)
	}
	equal, unequal := 0, 0
	for i, a := range all {
		for j, b := range all {
			want := looks[i] == looks[j]
			if xmltree.Equal(a, b) != want {
				t.Fatalf("Equal(%s, %s) = %v", show(a, true), show(b, true), !want)
			}
			if want {
				equal++
			} else {
				unequal++
			}
		}
	}
	if equal <= len(all) || unequal < 10*len(all) {
		t.Errorf("of %d nodes, %d pairs are equal and %d are not", len(all), equal, unequal)
	}
}

// P7.3: pairs in which a single part differs, written out.
func TestUnequal(t *testing.T) {
	x, y := data(0, "x"), data(0, "y")
	for _, c := range [][2]api.Node{
		{{}, {Kind: api.CharData}}, {{Kind: 2}, {Kind: 3}}, {{}, {Space: "s"}}, {{}, {Name: "n"}}, {{}, {Text: "t"}}, {{Space: "s"}, {Name: "s"}}, {{Name: "s"}, {Text: "s"}},
		{{}, {Attrs: []api.Attr{{}}}}, {{Attrs: []api.Attr{{}}}, {Attrs: []api.Attr{{}, {}}}}, {{}, {Kids: []api.Node{{}}}}, {{Kids: []api.Node{{}}}, {Kids: []api.Node{{}, {}}}}, {{Kids: []api.Node{{}}}, {Kids: []api.Node{{Kids: []api.Node{{}}}}}},
		{{Attrs: []api.Attr{{}}}, {Attrs: []api.Attr{{Space: "s"}}}}, {{Attrs: []api.Attr{{}}}, {Attrs: []api.Attr{{Name: "n"}}}}, {{Attrs: []api.Attr{{}}}, {Attrs: []api.Attr{{Value: "v"}}}}, {{Attrs: []api.Attr{{Name: "b"}}}, {Attrs: []api.Attr{{Value: "b"}}}},
		{{Attrs: []api.Attr{attr(0, "b", "1"), attr(0, "c", "2")}}, {Attrs: []api.Attr{attr(0, "c", "2"), attr(0, "b", "1")}}}, {{Attrs: []api.Attr{attr(0, "b", "1"), attr(0, "c", "2")}}, {Attrs: []api.Attr{attr(0, "b", "1"), attr(0, "c", "3")}}},
		{element(0, "a", x, y), element(0, "a", y, x)}, {element(0, "a", x, y), element(0, "a", data(0, "xy"))}, {element(0, "a", x), element(0, "a", x, data(0, ""))}, {element(0, "a", x, y), element(0, "a", x)}, {element(0, "a", x, y), element(0, "a", x, x)},
		{element(0, "a", element(0, "b", x)), element(0, "a", element(0, "b", y))}, {element(0, "a", element(0, "b"), element(0, "b", x)), element(0, "a", element(0, "b"), element(0, "b", y))}, {element(0, "a", element(0, "b"), x), element(0, "a", element(0, "b", x))},
		{{Kind: api.CharData, Kids: []api.Node{x}}, {Kind: api.CharData, Kids: []api.Node{y}}}, {{Kind: api.CharData, Attrs: []api.Attr{{}}}, {Kind: api.CharData}}, {{Kind: api.CharData, Name: "a"}, {Kind: api.CharData, Name: "b"}}, {{Kind: 5, Text: "x"}, {Kind: 5, Text: "y"}},
	} {
		for range 12 {
			if xmltree.Equal(c[0], c[1]) || xmltree.Equal(c[1], c[0]) {
				t.Fatalf("Equal(%s, %s) = true", show(c[0], true), show(c[1], true))
			}
			for _, n := range c {
				if !xmltree.Equal(n, n) || !xmltree.Equal(n, moved(n, math.MinInt)) || !xmltree.Equal(moved(n, math.MaxInt), n) {
					t.Fatalf("%s does not equal itself", show(n, true))
				}
			}
			c[0], c[1] = element(1, "a", c[0]), element(2, "a", c[1])
		}
	}
}

// P7.3, rule 4: whether an empty list is nil, and what is beyond the length of a list, makes no difference.
func TestLists(t *testing.T) {
	attrs := []api.Attr{attr(1, "b", "1"), attr(2, "c", "2")}
	kids := []api.Node{data(3, "x"), data(4, "y")}
	for _, c := range [][2]api.Node{
		{{}, {Attrs: []api.Attr{}, Kids: []api.Node{}}}, {{}, {Attrs: attrs[:0], Kids: kids[:0]}}, {{Kids: []api.Node{{}}}, {Kids: []api.Node{{Attrs: attrs[:0], Kids: kids[:0]}}}},
		{{Attrs: attrs[:1:1], Kids: kids[:1:1]}, {Attrs: attrs[:1], Kids: kids[:1]}},
	} {
		if !xmltree.Equal(c[0], c[1]) || !xmltree.Equal(c[1], c[0]) {
			t.Errorf("Equal(%s, %s) = false", show(c[0], true), show(c[1], true))
		}
		for _, n := range c {
			compareNode(t, n)
			s := xmltree.Strip(n)
			s.Attrs, s.Kids = append(s.Attrs, api.Attr{Name: "z"}), append(s.Kids, api.Node{Name: "z"})
		}
	}
	if xmltree.Text(api.Node{Kids: kids[:1]}) != "x" || xmltree.Depth(api.Node{Kids: []api.Node{{}, {Kids: []api.Node{{}}}}[:1]}) != 2 {
		t.Error("the kids beyond the length count")
	}
	if attrs[1] != attr(2, "c", "2") || show(kids[1], true) != show(data(4, "y"), true) {
		t.Error("a list was written beyond its length")
	}
}

// overwrite changes everything in a node that others could share, also behind the ends of its lists.
func overwrite(n *api.Node) {
	attrs := n.Attrs[:cap(n.Attrs)]
	for i := range attrs {
		attrs[i] = api.Attr{Space: "z", Name: "z", Value: "z", At: -1}
	}
	for i := range n.Kids {
		overwrite(&n.Kids[i])
	}
	kids := n.Kids[:cap(n.Kids)]
	for i := range kids {
		kids[i] = api.Node{Kind: 9, Space: "z", Name: "z", Text: "z", At: -1}
	}
}

// P7.3: what Strip returns is not changed with its argument, nor the other way round.
func TestStripSharesNothing(t *testing.T) {
	for i := range trees(t) {
		n := trees(t)[i]
		before := show(n, true)
		first, second := xmltree.Strip(n), xmltree.Strip(n)
		want := show(second, true)
		overwrite(&first)
		if show(n, true) != before || show(second, true) != want {
			t.Errorf("%s became %s, with %s instead of %s", before, show(n, true), show(second, true), want)
		}
		overwrite(&n)
		if show(second, true) != want {
			t.Errorf("%s became %s", want, show(second, true))
		}
	}
	// Two kids of the argument may share memory, but not those of the result.
	shared := element(1, "b", data(2, "x"))
	s := xmltree.Strip(element(0, "a", shared, shared))
	overwrite(&s.Kids[0])
	if s.Kids[1].Kids[0].Text != "x" {
		t.Error("the kids share memory")
	}
}

// Rule 4: the results of two calls share no memory, nor do two nodes of a result.
func TestParseSharesNothing(t *testing.T) {
	for _, s := range append(slices.Clone(samples), nested(100, "x"), "<a>"+strings.Repeat("<b c='1' d='2' e='3'>x<f/>y</b>", 9)+"</a>") {
		want, _, e := parse(s)
		first, _, _ := xmltree.Parse(s)
		second, _, _ := xmltree.Parse(s)
		overwrite(&first)
		wantTree := show(want, true)
		if show(second, true) != wantTree {
			t.Errorf("Parse(%q) = %s; want %s", s, show(second, true), wantTree)
		}
		if e == api.OK && len(second.Kids) > 1 {
			overwrite(&second.Kids[0])
			second.Kids[0] = want.Kids[0]
			if show(second, true) != wantTree {
				t.Errorf("Parse(%q): the kids share memory", s)
			}
		}
	}
}

// P1: documents with much character data in many parts, and those with many tokens before, behind or without a root.
func TestLongDocuments(t *testing.T) {
	const count = 1 << 16
	for _, part := range []string{"x<!---->", "x<?p?>", "<![CDATA[x]]>", "x<![CDATA[]]>", "&#120;"} {
		s := "<a>" + strings.Repeat(part, count)
		wantTree(t, s+"</a>", element(0, "a", data(3, strings.Repeat("x", count))))
		wantError(t, s, len(s), api.ErrEOF)
		wantError(t, s+"</b>", len(s), api.ErrMismatch)
	}
	space := strings.Repeat(" <!---->\n<![CDATA[\t]]>", count)
	wantTree(t, space+"<a/>"+space, element(len(space), "a"))
	wantError(t, space, len(space), api.ErrEOF)
	wantError(t, space+"<a/>"+space+"x<b/>", 2*len(space)+4, api.ErrSyntax)
	wantError(t, strings.Repeat("<a>", count), 300, api.ErrDepth)
	wantError(t, strings.Repeat("<a/>", count), 4, api.ErrTrailing)
	wantError(t, strings.Repeat("</a>", count), 0, api.ErrMismatch)
}

// P1: documents with many elements.
func TestWideDocuments(t *testing.T) {
	const count = 1 << 16
	for part, kids := range map[string]func(at int) []api.Node{
		"<b/>":     func(at int) []api.Node { return []api.Node{element(at, "b")} },
		"<b>x</b>": func(at int) []api.Node { return []api.Node{element(at, "b", data(at+3, "x"))} },
		"<b c='1'></b>x": func(at int) []api.Node {
			return []api.Node{with(element(at, "b"), attr(at+3, "c", "1")), data(at+13, "x")}
		},
		"<a><a><a/></a></a>": func(at int) []api.Node { return []api.Node{element(at, "a", element(at+3, "a", element(at+6, "a")))} },
	} {
		var all []api.Node
		for i := range count {
			all = append(all, kids(3+i*len(part))...)
		}
		s := "<a>" + strings.Repeat(part, count)
		wantTree(t, s+"</a>", element(0, "a", all...))
		wantError(t, s, len(s), api.ErrEOF)
		wantError(t, s+"</a><c/>", len(s)+4, api.ErrTrailing)
	}
}

// P1: nodes that are nested as deep as is permitted, and wide ones.
func TestDeepNodes(t *testing.T) {
	const deep = 1 << 16
	long := strings.Repeat("x", 1<<16)
	build := func(inside api.Node) api.Node {
		n := inside
		for i := range deep - 1 {
			n = with(element(i+1, "a", n, data(i+2, "y")), attr(i+3, "b", "1"))
		}
		return n
	}
	n := build(data(0, long))
	if got := xmltree.Text(n); got != long+strings.Repeat("y", deep-1) {
		t.Errorf("Text has %d bytes", len(got))
	}
	if got := xmltree.Depth(n); got != deep-1 {
		t.Errorf("Depth = %d", got)
	}
	if got := xmltree.Depth(build(element(0, "b"))); got != deep {
		t.Errorf("Depth = %d", got)
	}
	s := xmltree.Strip(n)
	if !xmltree.Equal(n, s) || !allZero(s) || xmltree.Equal(n, build(data(0, long[1:]))) || xmltree.Equal(n, n.Kids[0]) {
		t.Error("Equal or Strip is wrong for a deep node")
	}
	wide := element(0, "a", slices.Repeat([]api.Node{data(1, "x"), element(2, "b", data(3, "y"))}, deep)...)
	if xmltree.Text(wide) != strings.Repeat("xy", deep) || xmltree.Depth(wide) != 2 || !xmltree.Equal(wide, xmltree.Strip(wide)) {
		t.Error("Text, Depth, Equal or Strip is wrong for a wide node")
	}
}

// P1, P2: calls at the same time do not influence each other.
func TestConcurrentCalls(t *testing.T) {
	type answer struct {
		tree, stripped, text string
		at, depth            int
		e                    api.Errno
	}
	ask := func(s string) answer {
		n, at, e := xmltree.Parse(s)
		return answer{show(n, true), show(xmltree.Strip(n), true), xmltree.Text(n), at, xmltree.Depth(n), e}
	}
	want := map[string]answer{}
	for _, s := range samples {
		for i := range len(s) + 1 {
			want[s[:i]] = ask(s[:i])
			want[s[i:]] = ask(s[i:])
		}
	}
	shared := trees(t)
	var wg sync.WaitGroup
	for range 4 {
		wg.Go(func() {
			for range 10 {
				for s, a := range want {
					if got := ask(s); got != a {
						t.Errorf("%q: %+v, then %+v", s, a, got)
					}
				}
				for _, n := range shared {
					compareNode(t, n)
				}
			}
		})
	}
	wg.Wait()
}

// FuzzParse checks the promises on arbitrary documents.
func FuzzParse(f *testing.F) {
	for _, s := range samples {
		f.Add(s)
	}
	for _, c := range wrongTrees {
		f.Add(c.s)
	}
	for _, c := range wrongTokens {
		f.Add(c.s)
	}
	f.Fuzz(func(t *testing.T, s string) {
		if tokens, _, _ := xmltoken.Tokens(s); len(tokens) < 1000 {
			compare(t, s)
		}
	})
}

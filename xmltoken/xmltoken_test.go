package xmltoken_test

import (
	"fmt"
	"reflect"
	"strconv"
	"strings"
	"sync"
	"testing"
	"unicode"

	"feedvault/api"
	"feedvault/text"
	"feedvault/xmltoken"
)

const mark = "\xEF\xBB\xBF"

// start, empty, end and data are tokens, and attr is an attribute.
func start(at int, name string, attrs ...api.Attr) xmltoken.Token {
	return xmltoken.Token{Kind: xmltoken.Start, Name: name, Attrs: attrs, At: at}
}

func empty(at int, name string, attrs ...api.Attr) xmltoken.Token {
	return xmltoken.Token{Kind: xmltoken.Start, Name: name, Attrs: attrs, Empty: true, At: at}
}

func end(at int, name string) xmltoken.Token {
	return xmltoken.Token{Kind: xmltoken.End, Name: name, At: at}
}

func data(at int, s string) xmltoken.Token {
	return xmltoken.Token{Kind: xmltoken.Text, Text: s, At: at}
}

func attr(at int, name, value string) api.Attr {
	return api.Attr{Name: name, Value: value, At: at}
}

// same reports whether tokens are equal; an empty slice may be nil or not.
func same(a, b []xmltoken.Token) bool {
	if len(a) != len(b) {
		return false
	}
	for i := range a {
		x, y := a[i], b[i]
		if len(x.Attrs) == 0 && len(y.Attrs) == 0 {
			x.Attrs, y.Attrs = nil, nil
		}
		if !reflect.DeepEqual(x, y) {
			return false
		}
	}
	return true
}

func wantTokens(t *testing.T, s string, want ...xmltoken.Token) {
	t.Helper()
	got, n, e := xmltoken.Tokens(s)
	if !same(got, want) || n != len(s) || e != api.OK {
		t.Errorf("Tokens(%.200q) = %.2000s, %d, %v; want %.2000s, %d", s, fmt.Sprintf("%+v", got), n, e, fmt.Sprintf("%+v", want), len(s))
	}
}

func wantError(t *testing.T, s string, at int, want api.Errno) {
	t.Helper()
	got, gotAt, e := xmltoken.Tokens(s)
	if len(got) != 0 || gotAt != at || e != want {
		t.Errorf("Tokens(%.200q) = %.2000s, %d, %v; want %d, %v", s, fmt.Sprintf("%+v", got), gotAt, e, at, want)
	}
}

// compare compares Tokens and IsQName with the definitions, and returns the error of Tokens.
func compare(t *testing.T, s string) api.Errno {
	t.Helper()
	if got, want := xmltoken.IsQName(s), qName(s); got != want {
		t.Errorf("IsQName(%q) = %v; want %v", s, got, want)
	}
	if at, e := text.Check(s); e != api.OK {
		wantError(t, s, at, e)
		return e
	}
	want, at, e := read(s).tokens()
	if e != api.OK {
		wantError(t, s, at, e)
		return e
	}
	wantTokens(t, s, want...)
	last := -1
	for _, x := range want {
		if x.At <= last || x.At >= len(s) {
			t.Errorf("Tokens(%q): the offset %d follows %d", s, x.At, last)
		}
		last = x.At
	}
	return e
}

// P6.1: names, and what only looks like one.
func TestIsQName(t *testing.T) {
	for _, s := range []string{
		"a", "A", "z", "Z", "_", ":", "::", "a:", ":a", "a:b", "a::b", "a:b:c", ":a:", "_:_", "a1", "a-", "a.", "a-.1", ":1", ":-", ":.", "a:1", "a:-b", "xml", "XML:lang", "::a-1", "a0", "a9",
		"é", "éa", "aé", "a\u00B7", ":\u00B7", "\u00C0", "\u00D6", "\u00D8", "\u00F6", "\u00F8", "\u02FF", "a\u0300", "a\u036F", "\u0370", "\u037D", "\u037F", "\u1FFF", "\u200C\u200D", "a\u203F", "a\u2040", "\u2070", "\u218F", "€", "\u2C00", "\u2FEF", "\u3001", "\uD7FF", "\uF900", "\uFDCF", "\uFDF0", "\uFFFD", "\uFEFFa", "\U00010000", "\U000EFFFF", "\U00010000:\U000EFFFF", "a\U0001F600",
	} {
		if !xmltoken.IsQName(s) {
			t.Errorf("IsQName(%q) = false", s)
		}
		wantTokens(t, "<"+s+">", start(0, s))
		wantTokens(t, "</"+s+">", end(0, s))
		wantTokens(t, "<a "+s+"='1'/>", empty(0, "a", attr(3, s, "1")))
	}
	for _, s := range []string{
		"", "-", ".", "1", "-a", ".a", "1a", "1:a", "-:a", " ", " a", "a ", "a b", "\ta", "a\n", "a\r", "a\u00A0", "a\x00", "\x00", "a=", "=", "a/", "/a", "a>", "<a", "a'", "a\"", "a&", "&a;", "a;", "a,b", "a!", "?a", "a?", "a+b", "a*", "(a)", "a[0]", "{a}", "a}b", "@a", "#a", "a#", "$a", "a$", "%", "a~", "a|b", "a`b", "a^b", "a\\b", "a\x7F",
		"\u00B7", "\u00B7a", "\u0300", "\u0300a", "\u036F", "\u203F", "\u2040a", "\u00D7", "a\u00D7", "\u00F7", "a\u00F7b", "\u037E", "a\u037E", "\u2000", "a\u200B", "\u200E", "\u2041", "a\u206F", "\u2190", "a\u2BFF", "\u2FF0", "\u3000", "a\u3000b", "\uE000", "\uF8FF", "\uFDD0", "a\uFDEF", "\uFFFE", "\uFFFF", "\U000F0000", "a\U0010FFFF",
		"\xFF", "a\xFF", "a\xC3", "\xC3", "\xA9", "a\xA9", "\xC3\xC3\xA9", "\xE2\x82", "a\xE2\x82b", "\xF0\x90\x80", "\xC1\x81", "\xC0\xBA", "\xED\xA0\x80", "a\xED\xA0\x80", "\xF4\x90\x80\x80",
	} {
		if xmltoken.IsQName(s) {
			t.Errorf("IsQName(%q) = true", s)
		}
	}
}

// P6.1, P6.2: each rune as the only one of a name, as its first one and as another one.
func TestEveryRune(t *testing.T) {
	for r := rune(0); r <= unicode.MaxRune && !t.Failed(); r++ {
		if r >= 0xD800 && r <= 0xDFFF {
			continue
		}
		c := string(r)
		first := within(r, nameStarts)
		part := first || within(r, nameParts)
		for s, want := range map[string]bool{c: first, c + "a": first, "a" + c: part, ":" + c: part, "é" + c + "b": part} {
			if xmltoken.IsQName(s) != want {
				t.Errorf("IsQName(%q) = %v", s, !want)
			}
		}
		if !text.IsChar(r) {
			wantError(t, "<a>"+c+"<1>", 3, api.ErrChar)
			continue
		}
		// The ASCII characters may continue a tag in other ways; TestPermitted has them all.
		if r >= 0x80 {
			wantRuneInTags(t, c, first, part)
		}
	}
}

// wantRuneInTags checks the names in tags for a rune that can only be a part of a name.
func wantRuneInTags(t *testing.T, c string, first, part bool) {
	t.Helper()
	if first {
		wantTokens(t, "<"+c+" "+c+"='"+c+"'>", start(0, c, attr(2+len(c), c, c)))
		wantTokens(t, "</"+c+">", end(0, c))
	} else {
		wantError(t, "<"+c+"a>", 1, api.ErrSyntax)
		wantError(t, "</"+c+"a>", 2, api.ErrSyntax)
		wantError(t, "<a "+c+"='1'>", 3, api.ErrSyntax)
	}
	if part {
		wantTokens(t, "<a"+c+" a"+c+"='1'></a"+c+">", start(0, "a"+c, attr(3+len(c), "a"+c, "1")), end(9+2*len(c), "a"+c))
	} else {
		wantError(t, "<a"+c+">", 2, api.ErrSyntax)
		wantError(t, "</a"+c+">", 3, api.ErrSyntax)
		wantError(t, "<a a"+c+"='1'>", 4, api.ErrSyntax)
	}
}

// P6.2: documents with constructs of all kinds.
func TestDocuments(t *testing.T) {
	for _, c := range []struct {
		s    string
		want []xmltoken.Token
	}{
		{"", nil},
		{"<a b='1'/>x", []xmltoken.Token{empty(0, "a", attr(3, "b", "1")), data(10, "x")}},
		{"<a></a>", []xmltoken.Token{start(0, "a"), end(3, "a")}},
		{"<a/><a/>", []xmltoken.Token{empty(0, "a"), empty(4, "a")}},
		{"a<b/>c", []xmltoken.Token{data(0, "a"), empty(1, "b"), data(5, "c")}},
		{"<a><b>c</b>d</a>", []xmltoken.Token{start(0, "a"), start(3, "b"), data(6, "c"), end(7, "b"), data(11, "d"), end(12, "a")}},
		{"</a></b>", []xmltoken.Token{end(0, "a"), end(4, "b")}},
		{"</a><b>", []xmltoken.Token{end(0, "a"), start(4, "b")}},
		{"<a></b>", []xmltoken.Token{start(0, "a"), end(3, "b")}},
		{"<a><a><a>", []xmltoken.Token{start(0, "a"), start(3, "a"), start(6, "a")}},
		{" <a/> ", []xmltoken.Token{data(0, " "), empty(1, "a"), data(5, " ")}},
		{"<é>€</é>", []xmltoken.Token{start(0, "é"), data(4, "€"), end(7, "é")}},
		{"<?xml version='1.0'?><a/>", []xmltoken.Token{empty(21, "a")}},
		{"<a/><?xml?>", []xmltoken.Token{empty(0, "a")}},
		{"a<!-- b -->c", []xmltoken.Token{data(0, "a"), data(11, "c")}},
		{"a<?b?>c", []xmltoken.Token{data(0, "a"), data(6, "c")}},
		{"a<![CDATA[b]]>c", []xmltoken.Token{data(0, "a"), data(1, "b"), data(14, "c")}},
		{"a<![CDATA[]]>b", []xmltoken.Token{data(0, "a"), data(13, "b")}},
		{"<a><![CDATA[]]></a>", []xmltoken.Token{start(0, "a"), end(15, "a")}},
		{"<![CDATA[a]]><![CDATA[b]]>", []xmltoken.Token{data(0, "a"), data(13, "b")}},
		{"<a b='c'><d e=\"f\" g='h' /></a >", []xmltoken.Token{start(0, "a", attr(3, "b", "c")), empty(9, "d", attr(12, "e", "f"), attr(18, "g", "h")), end(26, "a")}},
		{"]]>", []xmltoken.Token{data(0, "]]>")}},
		{"a]]>b>c/>d-->e?>=\"'", []xmltoken.Token{data(0, "a]]>b>c/>d-->e?>=\"'")}},
		{"<a>></a>", []xmltoken.Token{start(0, "a"), data(3, ">"), end(4, "a")}},
		{"<a/>>", []xmltoken.Token{empty(0, "a"), data(4, ">")}},
		{"a&lt;b<c/>&gt;", []xmltoken.Token{data(0, "a<b"), empty(6, "c"), data(10, ">")}},
		{"<a:b c:d='1' xmlns='2' xmlns:c='3'/>", []xmltoken.Token{empty(0, "a:b", attr(5, "c:d", "1"), attr(13, "xmlns", "2"), attr(23, "xmlns:c", "3"))}},
		{"<:/><::></:>", []xmltoken.Token{empty(0, ":"), start(4, "::"), end(8, ":")}},
		{"<a b='1' B='2' :b='3' b:='4' b1='5' c:b='6' d:b='7'>", []xmltoken.Token{start(0, "a", attr(3, "b", "1"), attr(9, "B", "2"), attr(15, ":b", "3"), attr(22, "b:", "4"), attr(29, "b1", "5"), attr(36, "c:b", "6"), attr(44, "d:b", "7"))}},
		{"<a a='1'><a a='2'>", []xmltoken.Token{start(0, "a", attr(3, "a", "1")), start(9, "a", attr(12, "a", "2"))}},
	} {
		wantTokens(t, c.s, c.want...)
		compare(t, c.s)
	}
}

// P6.2: the byte order mark is ignored at the beginning only; offsets count it.
func TestByteOrderMark(t *testing.T) {
	wantTokens(t, mark)
	wantTokens(t, mark+mark, data(3, mark))
	wantTokens(t, mark+mark+mark+"a", data(3, mark+mark+"a"))
	wantTokens(t, mark+"a", data(3, "a"))
	wantTokens(t, mark+" ", data(3, " "))
	wantTokens(t, mark+"<a b='1'/>", empty(3, "a", attr(6, "b", "1")))
	wantTokens(t, mark+mark+"<a/>", data(3, mark), empty(6, "a"))
	wantTokens(t, mark+"<?xml?><!----><![CDATA[]]>")
	wantTokens(t, mark+"<![CDATA["+mark+"]]>", data(3, mark))
	wantTokens(t, "a"+mark, data(0, "a"+mark))
	wantTokens(t, " "+mark, data(0, " "+mark))
	wantTokens(t, "\n"+mark+"<a/>", data(0, "\n"+mark), empty(4, "a"))
	wantTokens(t, "<a/>"+mark, empty(0, "a"), data(4, mark))
	wantTokens(t, "<!---->"+mark, data(7, mark))
	wantTokens(t, "<a b='"+mark+"'>", start(0, "a", attr(3, "b", mark)))
	wantTokens(t, "<"+mark+">", start(0, mark))
	wantTokens(t, "&#xFEFF;a", data(0, mark+"a"))
	wantTokens(t, mark+"&#xFEFF;", data(3, mark))
	wantError(t, mark+"<", 3, api.ErrEOF)
	wantError(t, mark+"<!DOCTYPE a>", 3, api.ErrDoctype)
	wantError(t, mark+"&", 3, api.ErrReference)
	wantError(t, mark+"<a "+mark+">", 9, api.ErrSyntax)
	wantError(t, "\xEF\xBB", 0, api.ErrUTF8)
	wantError(t, "\xEF\xBB\xEF\xBB\xBF", 0, api.ErrUTF8)
	wantError(t, mark+"\xEF\xBB", 3, api.ErrUTF8)
	wantError(t, mark+"\x00", 3, api.ErrChar)
	wantTokens(t, "\uFEFE", data(0, "\uFEFE"))
	wantTokens(t, "\uFFBB", data(0, "\uFFBB"))
}

// lineEnds are sequences of line ends, with what they are read as.
var lineEnds = []struct{ s, want string }{
	{"\n", "\n"}, {"\r", "\n"}, {"\r\n", "\n"}, {"\n\r", "\n\n"}, {"\r\r", "\n\n"}, {"\n\n", "\n\n"}, {"\r\r\n", "\n\n"}, {"\r\n\r", "\n\n"}, {"\n\r\n", "\n\n"}, {"\r\n\n", "\n\n"}, {"\r\n\r\n", "\n\n"}, {"\r\r\n\n\r", "\n\n\n\n"}, {"\r \n", "\n \n"}, {"\r\t\r\n", "\n\t\n"}, {"\t", "\t"},
}

// P6.2: line ends in each kind of construct, at its ends and inside.
func TestLineEnds(t *testing.T) {
	for _, c := range lineEnds {
		n := len(c.s)
		wantTokens(t, c.s, data(0, c.want))
		wantTokens(t, "a"+c.s+"b"+c.s, data(0, "a"+c.want+"b"+c.want))
		wantTokens(t, c.s+"a", data(0, c.want+"a"))
		wantTokens(t, mark+c.s, data(3, c.want))
		wantTokens(t, "<a>"+c.s+"</a>"+c.s, start(0, "a"), data(3, c.want), end(3+n, "a"), data(7+n, c.want))
		wantTokens(t, "<![CDATA["+c.s+"]]>", data(0, c.want))
		wantTokens(t, c.s+"<![CDATA[a"+c.s+"b]]>"+c.s, data(0, c.want), data(n, "a"+c.want+"b"), data(2*n+14, c.want))
		wantTokens(t, "<!--"+c.s+"-->"+c.s+"<!----><?"+c.s+"?>"+c.s, data(7+n, c.want), data(18+3*n, c.want))
		for _, x := range []struct{ s, want string }{{"&#13;", "\r"}, {"&#10;", "\n"}, {"&#xD;&#xA;", "\r\n"}, {"&#xd;&#13;", "\r\r"}} {
			wantTokens(t, x.s+c.s, data(0, x.want+c.want))
			wantTokens(t, c.s+x.s, data(0, c.want+x.want))
			wantTokens(t, c.s+x.s+c.s, data(0, c.want+x.want+c.want))
			wantTokens(t, "<![CDATA["+c.s+x.s+"]]>", data(0, c.want+x.s))
		}
	}
	wantTokens(t, "<![CDATA[\r]]>\n", data(0, "\n"), data(13, "\n"))
	wantTokens(t, "\r<![CDATA[\n]]>", data(0, "\n"), data(1, "\n"))
	wantTokens(t, "\r<!---->\n", data(0, "\n"), data(8, "\n"))
}

// P6.2: line ends and other white space in values; what a reference stands for is kept.
func TestSpaceInValues(t *testing.T) {
	for _, quote := range []string{"'", "\""} {
		for _, c := range lineEnds {
			want := strings.NewReplacer("\n", " ", "\t", " ").Replace(c.want)
			n := len(c.s)
			wantTokens(t, "<a b="+quote+c.s+quote+"/>", empty(0, "a", attr(3, "b", want)))
			wantTokens(t, "<a b="+quote+"x"+c.s+"y"+quote+" c="+quote+c.s+"z"+quote+">\r", start(0, "a", attr(3, "b", "x"+want+"y"), attr(10+n, "c", want+"z")), data(16+2*n, "\n"))
			for _, x := range []struct{ s, want string }{{"&#13;", "\r"}, {"&#10;", "\n"}, {"&#9;", "\t"}, {"&#32;", " "}, {"&#xD;&#xA;", "\r\n"}, {"&#xd;&#x9;", "\r\t"}} {
				wantTokens(t, "<a b="+quote+x.s+quote+">", start(0, "a", attr(3, "b", x.want)))
				wantTokens(t, "<a b="+quote+x.s+c.s+quote+">", start(0, "a", attr(3, "b", x.want+want)))
				wantTokens(t, "<a b="+quote+c.s+x.s+quote+">", start(0, "a", attr(3, "b", want+x.want)))
				wantTokens(t, "<a b="+quote+c.s+x.s+c.s+quote+">", start(0, "a", attr(3, "b", want+x.want+want)))
			}
		}
	}
	wantTokens(t, "<a b='  x  y  '>", start(0, "a", attr(3, "b", "  x  y  ")))
	wantTokens(t, "<a b='\u00A0\u2003\u0085\u2028'>", start(0, "a", attr(3, "b", "\u00A0\u2003\u0085\u2028")))
	wantTokens(t, "\t\n\u0085\u2028", data(0, "\t\n\u0085\u2028"))
}

// P6.2: values in quotes of both kinds.
func TestValues(t *testing.T) {
	for s, want := range map[string]string{
		`''`: "", `""`: "", `'"'`: `"`, `"'"`: "'", `'""'`: `""`, `"''"`: "''", `'a"b"c'`: `a"b"c`, `"a'b'c"`: "a'b'c", `' '`: " ", `'='`: "=", `'>'`: ">", `'/>'`: "/>", `'a b="c"'`: `a b="c"`, `'-->'`: "-->", `']]>'`: "]]>", `'?>'`: "?>", `'é€` + "\U0001F600'": "é€\U0001F600",
		`'&quot;'`: `"`, `"&quot;"`: `"`, `'&apos;'`: "'", `"&apos;"`: "'", `'&lt;a&gt;'`: "<a>", `'&amp;lt;'`: "&lt;", `'&#38;#60;'`: "&#60;", `"&#x3C;&#60;"`: "<<", `'&amp;'`: "&", `'&#65;&#x1F600;'`: "A\U0001F600", `'x&lt;'`: "x<", `'&lt;x'`: "<x", `';&lt;;'`: ";<;", `'lt;'`: "lt;",
	} {
		n := len(s)
		wantTokens(t, "<a b="+s+">", start(0, "a", attr(3, "b", want)))
		wantTokens(t, "<a b="+s+"/>", empty(0, "a", attr(3, "b", want)))
		wantTokens(t, "<a b = "+s+" c="+s+" >x", start(0, "a", attr(3, "b", want), attr(8+n, "c", want)), data(12+2*n, "x"))
		compare(t, "<a b="+s+">")
	}
}

// P6.2: white space of each kind, or none, at each place of a tag.
func TestSpaceInTags(t *testing.T) {
	all := []string{"", " ", "\t", "\n", "\r", "\r\n", " \t\r\n ", "     "}
	for i, w := range all {
		n := len(w)
		wantTokens(t, "</a"+w+">x", end(0, "a"), data(4+n, "x"))
		wantTokens(t, "<a"+w+">x", start(0, "a"), data(3+n, "x"))
		wantTokens(t, "<a"+w+"/>x", empty(0, "a"), data(4+n, "x"))
		wantTokens(t, "<a b"+w+"='1'>", start(0, "a", attr(3, "b", "1")))
		wantTokens(t, "<a b="+w+"'1'>", start(0, "a", attr(3, "b", "1")))
		wantTokens(t, "<a b"+w+"="+all[len(all)-1-i]+"\"1\">", start(0, "a", attr(3, "b", "1")))
		wantTokens(t, "<a b='1'"+w+">x", start(0, "a", attr(3, "b", "1")), data(9+n, "x"))
		wantTokens(t, "<a b='1'"+w+"/>x", empty(0, "a", attr(3, "b", "1")), data(10+n, "x"))
		if w != "" {
			wantTokens(t, "<a"+w+"b='1'"+w+"c='2'"+w+"/>", empty(0, "a", attr(2+n, "b", "1"), attr(7+2*n, "c", "2")))
			wantTokens(t, "<a b='1'"+w+"c='2'>", start(0, "a", attr(3, "b", "1"), attr(8+n, "c", "2")))
			wantError(t, "<"+w+"a>", 1, api.ErrSyntax)
			wantError(t, "</"+w+"a>", 2, api.ErrSyntax)
			wantError(t, "<"+w+"/a>", 1, api.ErrSyntax)
			wantError(t, "<a/"+w+">", 3, api.ErrSyntax)
			wantError(t, "<a b='1'/"+w+">", 9, api.ErrSyntax)
			wantError(t, "<a b"+w+"c='1'>", 4+n, api.ErrSyntax)
			wantError(t, "<a b ="+w+"1'>", 6+n, api.ErrSyntax)
			wantError(t, "</a"+w+"b>", 3+n, api.ErrSyntax)
			wantError(t, "<"+w+"!-- -->", 1, api.ErrSyntax)
			wantError(t, "<"+w+"?a?>", 1, api.ErrSyntax)
			wantError(t, "<!"+w+"-- -->", 0, api.ErrSyntax)
			wantError(t, "<?a?"+w+">", 0, api.ErrEOF)
			wantError(t, "<!--a--"+w+">", 0, api.ErrEOF)
			wantError(t, "<!--a-"+w+"->", 0, api.ErrEOF)
			wantError(t, "<![CDATA[]]"+w+">", 0, api.ErrEOF)
			wantError(t, "<![CDATA[]"+w+"]>", 0, api.ErrEOF)
			wantError(t, "<!["+w+"CDATA[]]>", 0, api.ErrSyntax)
			wantError(t, "<![CDATA"+w+"[]]>", 0, api.ErrSyntax)
		}
	}
	for _, s := range []string{"\u00A0", "\u0085", "\u2003", "\u2028", "\u3000"} {
		wantError(t, "<a"+s+"b='1'>", 2, api.ErrSyntax)
		wantError(t, "<a b='1'"+s+">", 8, api.ErrSyntax)
		wantError(t, "<a b="+s+"'1'>", 5, api.ErrSyntax)
		wantError(t, "</a"+s+">", 3, api.ErrSyntax)
	}
}

// sections are the constructs that extend to an end of several bytes.
var sections = []struct{ first, last string }{{"<?", "?>"}, {"<!--", "-->"}, {"<![CDATA[", "]]>"}}

// P6.2: processing instructions, comments and CDATA sections with contents of all kinds.
func TestSections(t *testing.T) {
	for _, x := range sections {
		for _, inside := range []string{
			"", "a", " ", "<", "<<", ">", "&", "&lt;", "&x;", "<a", "<a>", "</a>", "<a b='", "<a b='1' b='1'>", "<1>", "'", "\"", "é€\U0001F600", "]", "]]", "] ]>", "]>", "-", "--", "- ->", "->", "--a", "?", "? >", "a?b", "=", "!", "/",
			"<?", "<!", "<!-", "<!--", "<![", "<![CDATA", "<![CDATA[", "<!DOCTYPE", "<!DOCTYPE a>", "<!doctype a>", "]]>", "-->", "?>", "<?a?>", "<!--a-->", "<![CDATA[a]]>", "--->", "]]]>", "??>", "]]]", "---", "??", "[CDATA[", "!--", "xml version='1.0'", mark,
		} {
			if strings.Contains(inside+x.last[:len(x.last)-1], x.last) {
				continue
			}
			s := x.first + inside + x.last
			// The end that overlaps with the contents may be the first one.
			if at := strings.Index(s[len(x.first):], x.last); at < len(inside) {
				continue
			}
			var want []xmltoken.Token
			if x.first == "<![CDATA[" && inside != "" {
				want = append(want, data(0, inside))
			}
			wantTokens(t, s, want...)
			wantTokens(t, s+"x", append(want, data(len(s), "x"))...)
			wantTokens(t, s+x.last, append(want, data(len(s), x.last))...)
			wantError(t, s+x.first, len(s), api.ErrEOF)
			wantError(t, s[:len(s)-1], 0, api.ErrEOF)
			wantError(t, "a"+x.first+inside, 1, api.ErrEOF)
			compare(t, "<a>"+s+s+"</a>")
		}
	}
}

// P6.2: the ends of these constructs may overlap with one another, but not with their first bytes.
func TestOverlappingEnds(t *testing.T) {
	for _, s := range []string{"<?>", "<?", "<??", "<?>?", "<?a>", "<!-->", "<!--->", "<!--", "<!---", "<!----", "<!-- -- >", "<!--->a", "<!-->-", "<!-->->", "<![CDATA[>", "<![CDATA[]>", "<![CDATA[", "<![CDATA[]", "<![CDATA[]]", "<![CDATA[]>]", "<![CDATA[] ]>"} {
		wantError(t, s, 0, api.ErrEOF)
		wantError(t, "<a/>\n"+s, 5, api.ErrEOF)
	}
	wantTokens(t, "<?>?>")
	wantTokens(t, "<??>")
	wantTokens(t, "<???>")
	wantTokens(t, "<??>?>", data(4, "?>"))
	wantTokens(t, "<?>a?>b", data(6, "b"))
	wantTokens(t, "<!---->")
	wantTokens(t, "<!----->")
	wantTokens(t, "<!------>")
	wantTokens(t, "<!-->-->")
	wantTokens(t, "<!--->-->")
	wantTokens(t, "<!--->a-->b", data(10, "b"))
	wantTokens(t, "<!-- -- -->")
	wantTokens(t, "<!---->-->", data(7, "-->"))
	wantTokens(t, "<![CDATA[]]>")
	wantTokens(t, "<![CDATA[]]]>", data(0, "]"))
	wantTokens(t, "<![CDATA[]]]]>", data(0, "]]"))
	wantTokens(t, "<![CDATA[]>]]>", data(0, "]>"))
	wantTokens(t, "<![CDATA[]]>]]>", data(12, "]]>"))
	wantTokens(t, "<![CDATA[[]]>", data(0, "["))
	wantTokens(t, "<![CDATA[<![CDATA[]]>", data(0, "<![CDATA["))
	wantTokens(t, "<![CDATA[ ]]>", data(0, " "))
	wantTokens(t, "<![CDATA[&amp;&#65;&]]>", data(0, "&amp;&#65;&"))
}

// P6.2: references in character data; TestValues has them in values.
func TestReferences(t *testing.T) {
	for s, want := range map[string]string{
		"&lt;": "<", "&gt;": ">", "&amp;": "&", "&apos;": "'", "&quot;": "\"", "&#65;": "A", "&#x41;": "A", "&#0065;": "A", "&#x1f600;": "\U0001F600", "&#9;": "\t", "&#10;": "\n", "&#13;": "\r", "&#xD;": "\r", "&#60;": "<", "&#38;": "&", "&#x26;": "&",
		"&amp;lt;": "&lt;", "&#38;lt;": "&lt;", "&amp;amp;": "&amp;", "&amp;#60;": "&#60;", "&lt;a&gt;": "<a>", "&lt;!DOCTYPE a&gt;": "<!DOCTYPE a>", "&lt;&lt;": "<<", "&amp;&amp;": "&&", "&#13;&#10;": "\r\n", "&#13;&#13;": "\r\r", "&#xFFFD;&#xD7FF;&#xE000;&#x10FFFF;": "\uFFFD\uD7FF\uE000\U0010FFFF",
	} {
		n := len(s)
		wantTokens(t, s, data(0, want))
		wantTokens(t, "é"+s+"€", data(0, "é"+want+"€"))
		wantTokens(t, s+s, data(0, want+want))
		wantTokens(t, "a;"+s+";b", data(0, "a;"+want+";b"))
		wantTokens(t, s+"<a>"+s+"</a>", data(0, want), start(n, "a"), data(n+3, want), end(2*n+3, "a"))
		wantTokens(t, "<a b='"+s+"' c=\""+s+"\"/>", empty(0, "a", attr(3, "b", want), attr(8+n, "c", want)))
		wantTokens(t, "<a b='x"+s+"y"+s+"'/>", empty(0, "a", attr(3, "b", "x"+want+"y"+want)))
		wantTokens(t, "<![CDATA["+s+"]]><!--"+s+"--><?"+s+"?>", data(0, s))
		// Outside of character data and values, an ampersand is not permitted.
		wantError(t, "<a"+s+">", 2, api.ErrSyntax)
		wantError(t, "<a b="+s+">", 5, api.ErrSyntax)
		wantError(t, "<a b='1'"+s+">", 8, api.ErrSyntax)
		wantError(t, "</a"+s+">", 3, api.ErrSyntax)
	}
}

// wrongReferences are ampersands at which no reference starts.
var wrongReferences = []string{"&", "&;", "& ", "&&", "&lt", "&lt ;", "&LT;", "&nbsp;", "&#;", "&#x;", "&#X41;", "&#65", "&#x41", "&#0;", "&#xB;", "&#xD800;", "&#xFFFE;", "&#x110000;", "&#99999999999999999999;", "&#-1;", "&é;", "&\n", "&\r\n"}

// P6.2: wrong references in character data and in values, before and after everything else.
func TestWrongReferences(t *testing.T) {
	for _, s := range wrongReferences {
		for _, before := range []string{"", "a", "é", "\r\n", "\r", "&lt;", "&#13;", "<a/>", "<a>", "</a>", "<!--&-->", "<?&?>", "<![CDATA[&]]>", "<a b='&lt;'>", "a<!---->", mark} {
			for _, after := range []string{"", ";", "a", "&lt;", "&", "<", "<a", "<a>", "<a b='", "<1>", "</a b>", "<!DOCTYPE a>", "<!a>", "<!--", "<![CDATA[", "<?", "]]>"} {
				// What follows must not complete the reference.
				if after == ";" && (s == "&lt" || s == "&#65" || s == "&#x41") {
					continue
				}
				wantError(t, before+s+after, len(before), api.ErrReference)
			}
		}
		for _, quote := range []string{"'", "\""} {
			for _, before := range []string{"", "a", "é", "\r\n", "\t", "&lt;", ">", "/>", "&quot;"} {
				for _, after := range []string{"", quote, quote + ">", quote + "/>", quote + " ", quote + "c", quote + " b=" + quote + quote + ">", "<", "<" + quote + ">", "&<", " <!DOCTYPE a>", "&lt", "\r&\n" + quote} {
					wantError(t, "<a b="+quote+before+s+after, 6+len(before), api.ErrReference)
					wantError(t, "</a>\n<a b="+quote+before+s+after, 11+len(before), api.ErrReference)
				}
			}
		}
	}
	wantError(t, "&lt<a;", 0, api.ErrReference)
	wantError(t, "a&b;<", 1, api.ErrReference)
	wantError(t, "<a b='&lt'c=';'>", 6, api.ErrReference)
	wantError(t, "<a b='1' b='&'>", 12, api.ErrReference)
	wantError(t, "&#6<!---->5;", 0, api.ErrReference)
}

// P6.2: constructs that the document ends in, and wrong references in values that are not terminated.
func TestEndsTooSoon(t *testing.T) {
	for _, s := range []string{
		"<a>", "<ab:c>", "<é>", "<a/>", "<a >", "<a />", "<a b='1'>", "<a b='1'/>", "<a b = \"1\" >", "<a b='' c=\"'\" />", "<a\tb\n=\r'x y' c='>'\r\n/>", "<a b='é' é='b'>", "</a>", "</ab:c>", "</a >", "</é\r\n>", "<::a :b=':'/>",
	} {
		for n := 1; n < len(s); n++ {
			if at, e := text.Check(s[:n]); e != api.OK {
				wantError(t, s[:n], at, api.ErrUTF8)
				continue
			}
			wantError(t, s[:n], 0, api.ErrEOF)
			wantError(t, "x"+s[:n], 1, api.ErrEOF)
			wantError(t, s+s[:n], len(s), api.ErrEOF)
			wantError(t, "\r\n"+mark+"<!---->"+s[:n], 12, api.ErrEOF)
		}
	}
	for _, x := range sections {
		for _, inside := range []string{"", "a", "<", "&", "é\r\n"} {
			s := x.first + inside + x.last
			for n := len(x.first); n < len(s); n++ {
				if _, e := text.Check(s[:n]); e == api.OK {
					wantError(t, s[:n], 0, api.ErrEOF)
					wantError(t, "<a/>\r\n"+s[:n], 6, api.ErrEOF)
				}
			}
		}
	}
	for _, c := range []struct {
		s  string
		at int
		e  api.Errno
	}{
		{"<", 0, api.ErrEOF}, {"</", 0, api.ErrEOF}, {"<!", 0, api.ErrSyntax}, {"<!-", 0, api.ErrSyntax}, {"<![", 0, api.ErrSyntax}, {"<![CDATA", 0, api.ErrSyntax}, {"<!DOCTYP", 0, api.ErrSyntax}, {"<!DOCTYPE", 0, api.ErrDoctype},
		{"<a b='&", 6, api.ErrReference}, {"<a b='&l", 6, api.ErrReference}, {"<a b='&lt", 6, api.ErrReference}, {"<a b='&lt;", 0, api.ErrEOF}, {"<a b='x&#", 7, api.ErrReference}, {"<a b='&lt;&amp;&#x41", 15, api.ErrReference},
		{"<a b='<", 6, api.ErrSyntax}, {"<a b='x<", 7, api.ErrSyntax}, {"<a b='1' b='", 0, api.ErrEOF}, {"<a b='1' b='1", 0, api.ErrEOF}, {"<a b='1' b='1'", 9, api.ErrDuplicate}, {"<a b='1' b=", 0, api.ErrEOF}, {"<a b='1' b", 0, api.ErrEOF}, {"<a b='1'c", 8, api.ErrSyntax}, {"<a /b", 4, api.ErrSyntax}, {"<a b='\"", 0, api.ErrEOF}, {"<a b=\"'>", 0, api.ErrEOF},
		{"<a b='1>x</a>", 9, api.ErrSyntax}, {"<a b='1>x &amp y", 10, api.ErrReference},
	} {
		wantError(t, c.s, c.at, c.e)
		wantError(t, "\r\n<a/>"+c.s, 6+c.at, c.e)
		compare(t, c.s)
	}
}

// P6.2: for each place of a tag the ASCII characters that are permitted there.
func TestPermitted(t *testing.T) {
	const start, part, space = ":ABCDEFGHIJKLMNOPQRSTUVWXYZ_abcdefghijklmnopqrstuvwxyz", "-.0123456789", "\t\n\r "
	all := ""
	for c := range 0x80 {
		if text.IsChar(rune(c)) {
			all += string(rune(c))
		}
	}
	for before, permitted := range map[string]string{
		"<":                       start + "/!?",
		"</":                      start,
		"</a":                     start + part + space + ">",
		"</a ":                    space + ">",
		"</a:-.9":                 start + part + space + ">",
		"<a":                      start + part + space + "/>",
		"<a:-.9":                  start + part + space + "/>",
		"<é":                      start + part + space + "/>",
		"<a ":                     start + space + "/>",
		"<a \r\n\t":               start + space + "/>",
		"<a/":                     ">",
		"<a /":                    ">",
		"<a b":                    start + part + space + "=",
		"<a b:-.9":                start + part + space + "=",
		"<a b ":                   space + "=",
		"<a b=":                   space + "'\"",
		"<a b = ":                 space + "'\"",
		"<a b='":                  strings.NewReplacer("<", "", "&", "").Replace(all),
		"<a b=\"":                 strings.NewReplacer("<", "", "&", "").Replace(all),
		"<a b='x&lt;\"":           strings.NewReplacer("<", "", "&", "").Replace(all),
		"<a b='1'":                space + "/>",
		"<a b=\"1\"":              space + "/>",
		"<a b='1' ":               start + space + "/>",
		"<a b='1'/":               ">",
		"<a b='1' /":              ">",
		"<a b='1' c":              start + part + space + "=",
		"<a b='1' c=":             space + "'\"",
		"<a b='1' c='2'":          space + "/>",
		"<?a?><!----><a>x</":      start,
		"a&amp;\r\n<![CDATA[]]><": start + "/!?",
	} {
		// A parenthesis is permitted in values only.
		value := strings.Contains(permitted, "(")
		for _, c := range all {
			s := before + string(c)
			at := len(before)
			switch {
			case strings.ContainsRune(permitted, c):
				if got, gotAt, e := xmltoken.Tokens(s + "\U0001F600"); len(got) == 0 && gotAt == at && e == api.ErrSyntax {
					t.Errorf("Tokens(%q): the last byte is not permitted", s)
				}
			case c == '&' && value:
				wantError(t, s, at, api.ErrReference)
			default:
				for _, after := range []string{"", ">", "/>", "'", "\"", "&", "<", " ", "<!DOCTYPE a>", "é"} {
					wantError(t, s+after, at, api.ErrSyntax)
				}
			}
			compare(t, s)
			compare(t, s+">")
			compare(t, s+" b='1'>")
		}
		for _, c := range []string{"\u00D7", "\u00A0", "\u2028", "\u3000", "\U0010FFFF"} {
			if !value {
				wantError(t, before+c, len(before), api.ErrSyntax)
				wantError(t, before+c+">", len(before), api.ErrSyntax)
			}
		}
	}
}

// P6.2: what starts with an exclamation mark.
func TestDeclarations(t *testing.T) {
	for _, s := range []string{"<!DOCTYPE", "<!DOCTYPE>", "<!DOCTYPE a>", "<!DOCTYPE a", "<!DOCTYPEa>", "<!DOCTYPE1", "<!DOCTYPE [<!ENTITY a 'b'>]>", "<!DOCTYPE<", "<!DOCTYPE&", "<!DOCTYPES", "<!DOCTYPE\u00D7"} {
		wantError(t, s, 0, api.ErrDoctype)
		wantError(t, "x"+s, 1, api.ErrDoctype)
		wantError(t, "<?xml version='1.0'?>\r\n"+s+"<a/>", 23, api.ErrDoctype)
		wantError(t, mark+s, 3, api.ErrDoctype)
		wantError(t, "<a>"+s+"&<1></a>", 3, api.ErrDoctype)
	}
	for _, s := range []string{
		"<!", "<!>", "<! ", "<!a", "<!a>", "<!D", "<!DO", "<!DOC", "<!DOCT", "<!DOCTY", "<!DOCTYP", "<!DOCTYP>", "<!DOCTYP E>", "<!doctype", "<!doctype a>", "<!Doctype a>", "<!DOCTYPe a>", "<!dOCTYPE a>", "<! DOCTYPE a>", "<!-DOCTYPE a>", "<!!DOCTYPE a>", "<!ENTITY a 'b'>", "<!ELEMENT a ANY>", "<!ATTLIST a>", "<!NOTATION a>",
		"<!-", "<!->", "<!- -->", "<! -- -->", "<!-a-->", "<!a-->", "<!-!-->", "<!\u2014-->",
		"<![", "<![]", "<![]]>", "<![C", "<![CD", "<![CDA", "<![CDAT", "<![CDATA", "<![CDATA]]>", "<![CDATA []]>", "<![cdata[]]>", "<![CData[]]>", "<![CDATA(]]>", "<! [CDATA[]]>", "<![ CDATA[]]>", "<![INCLUDE[]]>", "<![[CDATA[]]>", "<!CDATA[]]>",
		"<!!", "<!?", "<!?>", "<!/", "<!/a>", "<!<", "<!&", "<!\n", "<!é", "<!'", "<!=",
	} {
		wantError(t, s, 0, api.ErrSyntax)
		wantError(t, "x"+s, 1, api.ErrSyntax)
		wantError(t, "<?xml version='1.0'?>\r\n"+s+"<a/>", 23, api.ErrSyntax)
		wantError(t, "<a>"+s+"&<1></a>", 3, api.ErrSyntax)
	}
}

// P6.2: attributes with the same name.
func TestDuplicates(t *testing.T) {
	for _, c := range []struct {
		s  string
		at int
		e  api.Errno
	}{
		{"<a b='1' b='2'>", 9, api.ErrDuplicate}, {"<a b='1' b='1'>", 9, api.ErrDuplicate}, {"<a b='' b=\"\"/>", 8, api.ErrDuplicate}, {"<a b='1' c='2' b='3'>", 15, api.ErrDuplicate}, {"<a b='1' c='2' c='3' b='4'>", 15, api.ErrDuplicate}, {"<a b='1' b='2' b='3'>", 9, api.ErrDuplicate}, {"<a b='1'\r\n\tb = '2'>", 11, api.ErrDuplicate}, {"<a b:c='1' b:c='2'>", 11, api.ErrDuplicate}, {"<a :='1' :='2'>", 9, api.ErrDuplicate}, {"<a é='1' é='2'>", 10, api.ErrDuplicate}, {"<a a='1' a='2'>", 9, api.ErrDuplicate}, {"<a xmlns='1' xmlns='2'>", 13, api.ErrDuplicate},
		{"<a b='1' b='2'", 9, api.ErrDuplicate}, {"<a b='1' b='2' ", 9, api.ErrDuplicate}, {"<a b='1' b='2'c", 9, api.ErrDuplicate}, {"<a b='1' b='2'/x", 9, api.ErrDuplicate}, {"<a b='1' b='2' <", 9, api.ErrDuplicate}, {"<a b='1' b='2'>&", 9, api.ErrDuplicate}, {"<a b='1' b='2' c='&'>", 9, api.ErrDuplicate}, {"<a b='1' b='2' c", 9, api.ErrDuplicate},
		{"<a b='1' b='&'>", 12, api.ErrReference}, {"<a b='1' b='x&lt'>", 13, api.ErrReference}, {"<a b='1' b='<'>", 12, api.ErrSyntax}, {"<a b='1' b=2>", 11, api.ErrSyntax}, {"<a b='1' b>", 10, api.ErrSyntax}, {"<a b='1' b/>", 10, api.ErrSyntax}, {"<a b='1' b c='2'>", 11, api.ErrSyntax}, {"<a b='1' b=>", 11, api.ErrSyntax}, {"<a b='1'b='2'>", 8, api.ErrSyntax}, {"<a b='1' b='2", 0, api.ErrEOF}, {"<a b='1' b='", 0, api.ErrEOF}, {"<a b='1' b=", 0, api.ErrEOF}, {"<a b='1' b='2\">", 0, api.ErrEOF}, {"<a b='1' b='&lt;", 0, api.ErrEOF},
		{"<a b='1' c='2' c='&' b='3'>", 18, api.ErrReference}, {"<a b='1' b=\"'\"'>", 9, api.ErrDuplicate},
	} {
		wantError(t, c.s, c.at, c.e)
		const before = "<b>\r\né"
		wantError(t, before+c.s, len(before)+c.at, c.e)
		compare(t, c.s)
	}
	for _, s := range []string{"<a b='1' B='2'>", "<a b='1' bb='2'>", "<a b='1' c:b='2' :b='3'>", "<a c:b='1' d:b='2'>", "<a b:c='1' b:d='2'>", "<a b='1' b:='2' b::='3'>", "<a é='1' e\u0301='2'>", "<a e='1' é='2'>", "<a a='1'><a a='1'>", "<a b='1'/><a b='1'/>", "<a b='b' c='b'>", "<a b=\"b='1'\">", "<a \u00E9='1' \u00C9='2'>", "<a K='1' k='2' \u212A='3'>", "<a b='1' \uFEFFb='2'>"} {
		if e := compare(t, s); e != api.OK {
			t.Errorf("Tokens(%q): %v", s, e)
		}
	}
}

// P6.2: a less-than sign and quotes in values.
func TestLessThanInValues(t *testing.T) {
	for _, quote := range []string{"'", "\""} {
		for _, before := range []string{"", "x", "é", ">", "/>", "&lt;", "\r\n", "  ", "'"} {
			if before == quote {
				continue
			}
			for _, after := range []string{"", "x", quote, quote + ">", ">", "b>" + quote + ">", "/a>", "!---->", "!DOCTYPE", "?a?>", "&", "&x;" + quote, "<", "![CDATA[]]>"} {
				wantError(t, "<a b="+quote+before+"<"+after, 6+len(before), api.ErrSyntax)
				wantError(t, "<a a='' b="+quote+before+"<"+after, 11+len(before), api.ErrSyntax)
				wantError(t, "<a b='' b="+quote+before+"<"+after, 11+len(before), api.ErrSyntax)
			}
		}
		wantError(t, "<a b="+quote+"&x<"+quote+">", 6, api.ErrReference)
		wantError(t, "<a b="+quote+"<&x"+quote+">", 6, api.ErrSyntax)
		wantError(t, "<a b="+quote+"&lt;<"+quote+">", 10, api.ErrSyntax)
		wantError(t, "<a b="+quote+"&lt<;"+quote+">", 6, api.ErrReference)
	}
}

// wrongParts are constructs with errors that are found before the next construct begins.
var wrongParts = []struct {
	s  string
	at int
	e  api.Errno
}{
	{"<!DOCTYPE a>", 0, api.ErrDoctype}, {"<!a>", 0, api.ErrSyntax}, {"<1>", 1, api.ErrSyntax}, {"<>", 1, api.ErrSyntax}, {"</>", 2, api.ErrSyntax}, {"</a b>", 4, api.ErrSyntax}, {"</a b='1'>", 4, api.ErrSyntax}, {"</ a>", 2, api.ErrSyntax}, {"</a/>", 3, api.ErrSyntax}, {"<a / >", 4, api.ErrSyntax}, {"<a/b>", 3, api.ErrSyntax}, {"<a//>", 3, api.ErrSyntax}, {"<a b>", 4, api.ErrSyntax}, {"<a b=1>", 5, api.ErrSyntax}, {"<a b='1'c='2'>", 8, api.ErrSyntax}, {"<a b='1'\"2\">", 8, api.ErrSyntax}, {"<a ='1'>", 3, api.ErrSyntax}, {"<a 'b'>", 3, api.ErrSyntax}, {"<a b=='1'>", 5, api.ErrSyntax}, {"<a b='1' ='2'>", 9, api.ErrSyntax}, {"<a,b='1'>", 2, api.ErrSyntax}, {"<a='1'>", 2, api.ErrSyntax}, {"<a<b>", 2, api.ErrSyntax}, {"<a <b>", 3, api.ErrSyntax}, {"<<a>", 1, api.ErrSyntax}, {"</a</a>", 3, api.ErrSyntax}, {"<a\u00D7>", 2, api.ErrSyntax}, {"<&lt;>", 1, api.ErrSyntax}, {"<a b='x<'>", 7, api.ErrSyntax}, {"<a b='&'>", 6, api.ErrReference}, {"<a b='1' b='2'>", 9, api.ErrDuplicate}, {"&", 0, api.ErrReference}, {"x&y;", 1, api.ErrReference},
}

// P6.2: of several errors, the first one from the left counts.
func TestFirstError(t *testing.T) {
	right := []string{"", "x", "\r\n", "é", "<a>", "</a>", "<a b='1'/>", "<!--<1>-->", "<?<1>?>", "<![CDATA[<1>&]]>", "&lt;"}
	for _, c := range wrongParts {
		for _, before := range right {
			wantError(t, before+c.s, len(before)+c.at, c.e)
			for _, after := range right {
				wantError(t, before+c.s+after, len(before)+c.at, c.e)
			}
			for _, after := range wrongParts {
				wantError(t, before+c.s+after.s, len(before)+c.at, c.e)
			}
			for _, after := range []string{"<", "<a", "<a b='", "</", "<!--", "<?", "<![CDATA["} {
				wantError(t, before+c.s+after, len(before)+c.at, c.e)
			}
		}
		// Within the constructs that are not read, nothing is wrong.
		for _, x := range sections {
			var want []xmltoken.Token
			if x.first == "<![CDATA[" {
				want = append(want, data(0, c.s))
			}
			wantTokens(t, x.first+c.s+x.last, want...)
		}
	}
}

// P6.2: invalid UTF-8 and characters that are not permitted precede all other errors, wherever they are.
func TestCheckComesFirst(t *testing.T) {
	places := []string{"", "x", "<a>", "<a b='", "<a b='1' ", "<!--", "<!---->", "<?", "<![CDATA[", "</a", "<", "<!", "é", mark}
	for _, c := range wrongParts {
		places = append(places, c.s)
	}
	for _, x := range []struct {
		s string
		e api.Errno
	}{
		{"\xFF", api.ErrUTF8}, {"\x80", api.ErrUTF8}, {"\xC3", api.ErrUTF8}, {"\xC0\xBC", api.ErrUTF8}, {"\xE2\x82", api.ErrUTF8}, {"\xED\xA0\x80", api.ErrUTF8}, {"\xF4\x90\x80\x80", api.ErrUTF8}, {"\xFE\xFF", api.ErrUTF8},
		{"\x00", api.ErrChar}, {"\x01", api.ErrChar}, {"\x08", api.ErrChar}, {"\x0B", api.ErrChar}, {"\x0C", api.ErrChar}, {"\x0E", api.ErrChar}, {"\x1F", api.ErrChar}, {"\uFFFE", api.ErrChar}, {"\uFFFF", api.ErrChar},
	} {
		for _, before := range places {
			for _, after := range []string{"", "x", "<1>", "&", "'>", "-->", "?>", "]]>", "\x00", "\xFF", "\uFFFE"} {
				wantError(t, before+x.s+after, len(before), x.e)
			}
		}
	}
}

// P6.2, P6.3: documents without markup are a single token.
func TestWithoutMarkup(t *testing.T) {
	for _, s := range []string{"a", " ", "\n", "\t\n ", "a\nb", ">", "]]>", "-->", "?>", "/>", "'\"=", "lt;", "#65;", "!DOCTYPE", "é€\U0001F600", "\uFEFF\u0085", "a\uFEFF", strings.Repeat("x\n", 1000)} {
		wantWhole(t, s)
	}
	for r := rune(0); r <= unicode.MaxRune && !t.Failed(); r++ {
		if text.IsChar(r) && r != '<' && r != '&' && r != '\r' {
			wantWhole(t, "a"+string(r))
			wantWhole(t, string(r))
		}
	}
	wantTokens(t, "")
	wantTokens(t, mark)
}

// wantWhole checks a document that is a single token.
func wantWhole(t *testing.T, s string) {
	t.Helper()
	wantTokens(t, mark+s, data(3, s))
	if !strings.HasPrefix(s, mark) {
		wantTokens(t, s, data(0, s))
	}
}

// every calls f with a string and with all that extend it by at most n of the parts. Strings for which f returns false are not extended.
func every(s string, parts []string, n int, f func(string) bool) {
	if !f(s) || n == 0 {
		return
	}
	for _, p := range parts {
		every(s+p, parts, n-1, f)
	}
}

// P6.1 to P6.3: all short documents of awkward parts, and all short ends of documents in the middle of a construct.
func TestEveryShortDocument(t *testing.T) {
	for _, c := range []struct {
		first []string
		parts []string
		n     int
	}{
		{[]string{"", mark}, []string{"<", ">", "/", "!", "?", "-", "a", ":", "1", "=", "'", "\"", " ", "\r", "\n", "&", "&lt;", "é", mark}, 4},
		{[]string{"<a", "<a ", "<a b", "<a b='", "<a b='1'", "<a b='1' b"}, []string{">", "/", "b", "-", " ", "\r", "=", "'", "\"", "<", "&", "&#13;"}, 5},
		{[]string{"</", "</a", "x</a"}, []string{">", "/", "a", ":", "1", " ", "\r\n", "=", "'", "<", "&", "\u00D7"}, 4},
		{[]string{"<", "<!", "<!-", "<!--", "<!--a"}, []string{"-", ">", "!", "<", "?", "a", "&"}, 6},
		{[]string{"<?", "<?a"}, []string{"?", ">", "<", "a", "&", "\r"}, 6},
		{[]string{"<![CDATA[", "<![CDATA[a"}, []string{"]", ">", "<", "[", "&lt;", "\r", "\n"}, 6},
		{[]string{"", "<a b='", "<![CDATA["}, []string{"\r", "\n", "\t", " ", "&#13;", "&#10;", "x", "]]>", "'>"}, 5},
		{[]string{"", "<a b='"}, []string{"&", "#", "x", "4", ";", "lt", "<", "'", "\r"}, 5},
		{[]string{"", "<a>"}, []string{"<a>", "</a>", "<a b='1'/>", "x", "\r\n", "<!---->", "<![CDATA[y]]>", "<![CDATA[]]>", "<?z?>", "&amp;", "<!DOCTYPE>", "<"}, 4},
	} {
		for _, first := range c.first {
			every(first, c.parts, c.n, func(s string) bool {
				e := compare(t, s)
				return !t.Failed() && e != api.ErrDuplicate && e != api.ErrDoctype
			})
		}
	}
}

// samples have constructs of all kinds.
var samples = []string{
	mark + "<?xml version='1.0'?>\r\n<a b = '1\r\n2' c:d=\"&lt;&#9;\t'\">x&amp;y<!-- <z> --><![CDATA[&lt;\r]]></a ><b/>",
	"<a b='1' c=\"2\"/>", "</a >", "<a\r\n>", "<é:€ \U0001F600='é'>é</é:€>", "a<!-- b -->c", "<![CDATA[a]]>", "<?a b?>", "<!DOCTYPE a>", "a&lt;&#xD;\r\n\r&#38;", "<a b='&quot;&#10;\n'>", "<a b='1' b='2'>", "<a b=1>", "<a b='<'>", "<a/b>", "x&y;<1>",
}

// P6.2: any byte in place of any other one, or before it, and each part left out or doubled.
func TestEveryChange(t *testing.T) {
	for _, s := range samples {
		for i := range len(s) + 1 {
			for b := range 256 {
				compare(t, s[:i]+string([]byte{byte(b)})+s[i:])
				if i < len(s) {
					compare(t, s[:i]+string([]byte{byte(b)})+s[i+1:])
				}
			}
			for _, part := range []string{"\r\n", "&lt;", "é", "\u00D7", "\uFFFE", mark, "<!---->", "<![CDATA[", "]]>", "-->", "?>", "<!DOCTYPE", " b='1'"} {
				compare(t, s[:i]+part+s[i:])
			}
			compare(t, s[:i])
			compare(t, s[i:])
			for j := i + 1; j <= len(s); j++ {
				compare(t, s[:i]+s[j:])
				compare(t, s[:j]+s[i:])
			}
		}
	}
}

// P6.2: tags with many attributes.
func TestManyAttributes(t *testing.T) {
	const count = 50000
	var s strings.Builder
	var attrs []api.Attr
	s.WriteString("<a")
	for i := range count {
		s.WriteString(" ")
		n := strconv.Itoa(i)
		attrs = append(attrs, attr(s.Len(), "b"+n, n))
		s.WriteString("b" + n + "='" + n + "'")
	}
	wantTokens(t, s.String()+">", start(0, "a", attrs...))
	wantTokens(t, s.String()+"/>x", empty(0, "a", attrs...), data(s.Len()+2, "x"))
	for _, name := range []string{"b0", "b1", "b25000", "b49999"} {
		wantError(t, s.String()+" "+name+"=''", s.Len()+1, api.ErrDuplicate)
	}
	wantError(t, s.String()+"b50000=''>", s.Len(), api.ErrSyntax)
	wantError(t, s.String(), 0, api.ErrEOF)
}

// P1: long documents of each construct, deep ones, and those with a late error.
func TestLongDocuments(t *testing.T) {
	const count = 1 << 17
	for _, part := range []string{"<a>", "</a>", "<a/>", "<a b='1'>", "<![CDATA[x]]>"} {
		one, _, _ := xmltoken.Tokens(part)
		got, n, e := xmltoken.Tokens(strings.Repeat(part, count))
		if len(got) != count || n != count*len(part) || e != api.OK {
			t.Fatalf("%d times %q: %d tokens, %d, %v", count, part, len(got), n, e)
		}
		for i, x := range got {
			at := i * len(part)
			x.At -= at
			for j := range x.Attrs {
				x.Attrs[j].At -= at
			}
			if !same([]xmltoken.Token{x}, one) {
				t.Fatalf("%d times %q: the token %d is %+v", count, part, i, got[i])
			}
		}
	}
	for part, want := range map[string]string{"x": "x", "&lt;": "<", "\r\n": "\n", "\r": "\n", ">": ">", "é]]>": "é]]>"} {
		s, all := strings.Repeat(part, count), strings.Repeat(want, count)
		wantTokens(t, s, data(0, all))
		wantTokens(t, "<a b='"+s+"'/>", empty(0, "a", attr(3, "b", strings.ReplaceAll(all, "\n", " "))))
		wantError(t, s+"&", len(s), api.ErrReference)
		wantError(t, "<a b='"+s, 0, api.ErrEOF)
		wantError(t, "<a b='"+s+"<", 6+len(s), api.ErrSyntax)
		wantTokens(t, "<!--"+s+"--><?"+s+"?>")
		wantError(t, "x<!--"+s, 1, api.ErrEOF)
	}
	for _, part := range []string{"<!---->", "<?a?>", "<![CDATA[]]>"} {
		wantTokens(t, strings.Repeat(part, count))
		wantError(t, strings.Repeat(part, count)+"<", count*len(part), api.ErrEOF)
	}
	name := strings.Repeat("a:1-é", count)
	wantTokens(t, "<"+name+"/></"+name+">", empty(0, name), end(len(name)+3, name))
	wantTokens(t, "<a"+strings.Repeat(" ", count)+">", start(0, "a"))
	wantError(t, strings.Repeat("<", count), 1, api.ErrSyntax)
	wantError(t, strings.Repeat("<a ", count), 3, api.ErrSyntax)
}

// Rule 4: the results of two calls share no memory, nor do the attributes of two tokens.
func TestResultsShareNothing(t *testing.T) {
	const s = "<a b='1' c='2' d='3'/><e f='4' g='5' h='6'/>"
	want := []xmltoken.Token{empty(0, "a", attr(3, "b", "1"), attr(9, "c", "2"), attr(15, "d", "3")), empty(22, "e", attr(25, "f", "4"), attr(31, "g", "5"), attr(37, "h", "6"))}
	got, _, _ := xmltoken.Tokens(s)
	got[0].Attrs = append(got[0].Attrs, attr(0, "x", "x"), attr(0, "y", "y"))
	if !same(got[1:], want[1:]) {
		t.Errorf("%+v; want %+v", got[1:], want[1:])
	}
	for i := range got {
		for j := range got[i].Attrs {
			got[i].Attrs[j] = attr(0, "z", "z")
		}
		got[i].Name = "z"
	}
	wantTokens(t, s, want...)
}

// P1, P2: calls at the same time do not influence each other.
func TestConcurrentCalls(t *testing.T) {
	type answer struct {
		tokens []xmltoken.Token
		at     int
		e      api.Errno
		name   bool
	}
	ask := func(s string) answer {
		var a answer
		a.tokens, a.at, a.e = xmltoken.Tokens(s)
		a.name = xmltoken.IsQName(s)
		return a
	}
	want := map[string]answer{}
	for _, s := range samples {
		for i := range len(s) + 1 {
			want[s[:i]] = ask(s[:i])
			want[s[i:]] = ask(s[i:])
		}
	}
	var wg sync.WaitGroup
	for range 4 {
		wg.Go(func() {
			for range 10 {
				for s, a := range want {
					if got := ask(s); !reflect.DeepEqual(got, a) {
						t.Errorf("%q: %+v, then %+v", s, a, got)
					}
				}
			}
		})
	}
	wg.Wait()
}

// FuzzTokens checks the promises on arbitrary strings.
func FuzzTokens(f *testing.F) {
	for _, s := range samples {
		f.Add(s)
	}
	for _, c := range wrongParts {
		f.Add(c.s)
	}
	f.Fuzz(func(t *testing.T, s string) { compare(t, s) })
}

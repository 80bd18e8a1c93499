package xmlescape_test

import (
	"fmt"
	"math"
	"math/big"
	"regexp"
	"slices"
	"strings"
	"sync"
	"testing"
	"unicode"

	"feedvault/api"
	"feedvault/xmlescape"
)

// names are the references with names.
var names = []struct {
	s string
	r rune
}{{"&lt;", '<'}, {"&gt;", '>'}, {"&amp;", '&'}, {"&apos;", '\''}, {"&quot;", '"'}}

// inText are the replacements in character data, and inAttr those that an attribute value has in addition.
var (
	inText = map[byte]string{'&': "&amp;", '<': "&lt;", '>': "&gt;", 13: "&#13;"}
	inAttr = map[byte]string{'"': "&quot;", 9: "&#9;", 10: "&#10;"}
)

// chars are the ranges of the XML characters.
var chars = []struct{ first, last rune }{{0x9, 0x9}, {0xA, 0xA}, {0xD, 0xD}, {0x20, 0xD7FF}, {0xE000, 0xFFFD}, {0x10000, 0x10FFFF}}

func isChar(r rune) bool {
	for _, x := range chars {
		if x.first <= r && r <= x.last {
			return true
		}
	}
	return false
}

// encode returns the UTF-8 encoding of an XML character.
func encode(r rune) string {
	low := func(shift int) byte { return byte(0x80 | r>>shift&0x3F) }
	switch {
	case r < 0x80:
		return string([]byte{byte(r)})
	case r < 0x800:
		return string([]byte{byte(0xC0 | r>>6), low(0)})
	case r < 0x10000:
		return string([]byte{byte(0xE0 | r>>12), low(6), low(0)})
	}
	return string([]byte{byte(0xF0 | r>>18), low(12), low(6), low(0)})
}

// escaped is the chapter's definition of Text and, if attr is set, of Attr.
func escaped(s string, attr bool) string {
	var out []byte
	for i := range len(s) {
		switch c := s[i]; {
		case inText[c] != "":
			out = append(out, inText[c]...)
		case attr && inAttr[c] != "":
			out = append(out, inAttr[c]...)
		default:
			out = append(out, c)
		}
	}
	return string(out)
}

var pattern = regexp.MustCompile(`^&(?:lt|gt|amp|apos|quot|#([0-9]+)|#x([0-9a-fA-F]+));`)

// reference is the chapter's definition of Reference, with numbers of any size.
func reference(s string, at int) (rune, int, api.Errno) {
	if at < 0 || at >= len(s) || s[at] != '&' {
		return 0, 0, api.ErrReference
	}
	groups := pattern.FindStringSubmatch(s[at:])
	if groups == nil {
		return 0, 0, api.ErrReference
	}
	for _, name := range names {
		if groups[0] == name.s {
			return name.r, at + len(name.s), api.OK
		}
	}
	digits, base := groups[1], 10
	if digits == "" {
		digits, base = groups[2], 16
	}
	n, _ := new(big.Int).SetString(digits, base)
	if n.Cmp(big.NewInt(unicode.MaxRune)) > 0 || !isChar(rune(n.Int64())) {
		return 0, 0, api.ErrReference
	}
	return rune(n.Int64()), at + len(groups[0]), api.OK
}

// unescaped is the chapter's definition of Unescape.
func unescaped(s string) (string, int, api.Errno) {
	out := ""
	for at := 0; at < len(s); {
		if s[at] != '&' {
			out += s[at : at+1]
			at++
			continue
		}
		r, next, e := reference(s, at)
		if e != api.OK {
			return "", at, api.ErrReference
		}
		out += encode(r)
		at = next
	}
	return out, len(s), api.OK
}

func wantEscaped(t *testing.T, s, inText, inAttr string) {
	t.Helper()
	if got := xmlescape.Text(s); got != inText {
		t.Errorf("Text(%.200q) = %.200q; want %.200q", s, got, inText)
	}
	if got := xmlescape.Attr(s); got != inAttr {
		t.Errorf("Attr(%.200q) = %.200q; want %.200q", s, got, inAttr)
	}
}

func wantReference(t *testing.T, s string, at int, r rune, next int) {
	t.Helper()
	if gotR, gotNext, e := xmlescape.Reference(s, at); gotR != r || gotNext != next || e != api.OK {
		t.Errorf("Reference(%.200q, %d) = %#x, %d, %v; want %#x, %d", s, at, gotR, gotNext, e, r, next)
	}
}

func wantNoReference(t *testing.T, s string, at int) {
	t.Helper()
	if r, next, e := xmlescape.Reference(s, at); r != 0 || next != 0 || e != api.ErrReference {
		t.Errorf("Reference(%.200q, %d) = %#x, %d, %v; want %v", s, at, r, next, e, api.ErrReference)
	}
}

func wantUnescaped(t *testing.T, s, want string) {
	t.Helper()
	if got, at, e := xmlescape.Unescape(s); got != want || at != len(s) || e != api.OK {
		t.Errorf("Unescape(%.200q) = %.200q, %d, %v; want %.200q, %d", s, got, at, e, want, len(s))
	}
}

func wantWrong(t *testing.T, s string, at int) {
	t.Helper()
	if got, gotAt, e := xmlescape.Unescape(s); got != "" || gotAt != at || e != api.ErrReference {
		t.Errorf("Unescape(%.200q) = %.200q, %d, %v; want %d, %v", s, got, gotAt, e, at, api.ErrReference)
	}
}

// wantInverse checks that Unescape inverts Text and Attr.
func wantInverse(t *testing.T, s string) {
	t.Helper()
	wantUnescaped(t, xmlescape.Text(s), s)
	wantUnescaped(t, xmlescape.Attr(s), s)
}

// compare compares Reference, at all offsets and next to them, and Unescape with the definitions.
func compare(t *testing.T, s string) {
	t.Helper()
	for at := -1; at <= len(s)+1; at++ {
		r, next, e := reference(s, at)
		if gotR, gotNext, gotE := xmlescape.Reference(s, at); gotR != r || gotNext != next || gotE != e {
			t.Errorf("Reference(%q, %d) = %#x, %d, %v; want %#x, %d, %v", s, at, gotR, gotNext, gotE, r, next, e)
		}
	}
	want, at, e := unescaped(s)
	if got, gotAt, gotE := xmlescape.Unescape(s); got != want || gotAt != at || gotE != e {
		t.Errorf("Unescape(%q) = %q, %d, %v; want %q, %d, %v", s, got, gotAt, gotE, want, at, e)
	}
}

// every calls f with all strings of at most n of the parts.
func every(parts []string, n int, f func(string)) {
	var visit func(s string, n int)
	visit = func(s string, n int) {
		f(s)
		if n > 0 {
			for _, p := range parts {
				visit(s+p, n-1)
			}
		}
	}
	visit("", n)
}

// P5.1: the replacements, and what only looks as if it had to be replaced.
func TestEscape(t *testing.T) {
	for _, c := range []struct{ s, inText, inAttr string }{
		{"", "", ""},
		{"a", "a", "a"},
		{"a<b", "a&lt;b", "a&lt;b"},
		{"a>b", "a&gt;b", "a&gt;b"},
		{"a&b", "a&amp;b", "a&amp;b"},
		{"a\rb", "a&#13;b", "a&#13;b"},
		{"a\"b", "a\"b", "a&quot;b"},
		{"a\tb", "a\tb", "a&#9;b"},
		{"a\nb", "a\nb", "a&#10;b"},
		{"a'b", "a'b", "a'b"},
		{"&lt;", "&amp;lt;", "&amp;lt;"},
		{"&amp;#13;", "&amp;amp;#13;", "&amp;amp;#13;"},
		{"&&", "&amp;&amp;", "&amp;&amp;"},
		{"\r\n", "&#13;\n", "&#13;&#10;"},
		{"\n\r\t", "\n&#13;\t", "&#10;&#13;&#9;"},
		{"<a b=\"'\">]]></a>", "&lt;a b=\"'\"&gt;]]&gt;&lt;/a&gt;", "&lt;a b=&quot;'&quot;&gt;]]&gt;&lt;/a&gt;"},
		{"\x00\x01\x08\x0B\x0C\x0E\x1F\x7F", "\x00\x01\x08\x0B\x0C\x0E\x1F\x7F", "\x00\x01\x08\x0B\x0C\x0E\x1F\x7F"},
		{"é€\U0001F600\uFFFE\uFFFD\u0085\u2028", "é€\U0001F600\uFFFE\uFFFD\u0085\u2028", "é€\U0001F600\uFFFE\uFFFD\u0085\u2028"},
		{"＆＜＞＂\u00AB\u2039", "＆＜＞＂\u00AB\u2039", "＆＜＞＂\u00AB\u2039"},
	} {
		wantEscaped(t, c.s, c.inText, c.inAttr)
	}
}

// P5.1, P5.4: each byte alone, between two others, and between parts of encodings.
func TestEscapeEveryByte(t *testing.T) {
	for b := range 256 {
		s := string([]byte{byte(b)})
		inText, inAttr := escaped(s, false), escaped(s, true)
		wantEscaped(t, s, inText, inAttr)
		for _, c := range [][2]string{{"a", "b"}, {"", "b"}, {"a", ""}, {"é", "é"}, {"\xC3", "\xA9"}, {"\xE2\x82", "\xAC"}, {"\xF0", ""}, {"\xFF", "\xFF"}, {"#", ";"}, {"'", "'"}} {
			wantEscaped(t, c[0]+s+c[1], c[0]+inText+c[1], c[0]+inAttr+c[1])
			wantInverse(t, c[0]+s+c[1])
		}
		wantEscaped(t, strings.Repeat(s, 100), strings.Repeat(inText, 100), strings.Repeat(inAttr, 100))
	}
}

// P5.1, P5.4: each two bytes.
func TestEscapeEveryTwoBytes(t *testing.T) {
	for b := range 256 * 256 {
		s := string([]byte{byte(b >> 8), byte(b)})
		wantEscaped(t, s, escaped(s, false), escaped(s, true))
		wantInverse(t, s)
	}
}

// P5.1, P5.4: strings that are not valid UTF-8 keep their bytes.
func TestEscapeInvalidUTF8(t *testing.T) {
	for _, s := range []string{
		"\xFF", "\x80", "\xC3", "\xC3<", "\xE2\x82", "\xE2\x82&", "\xF0\x9F\x98", "\xF0\x9F\x98>", "\xC0\xBC", "\xC0\xA6", "\xE0\x80\xBC", "\xF0\x80\x80\xA6", "\xC0\x8D", "\xC0\x8A",
		"\xED\xA0\x80", "\xED\xBF\xBF", "\xF4\x90\x80\x80", "\xFE\xFF", "<\xFF>\xFE&\x80\"\r\n\t", "\xBF\xBC\xA6", "\xEF\xBB\xBF&", "\xA6\xBC\xBE\x8D\x8A\x89\xA2",
	} {
		wantEscaped(t, s, escaped(s, false), escaped(s, true))
		wantEscaped(t, "\n"+s+"\"", "\n"+escaped(s, false)+"\"", "&#10;"+escaped(s, true)+"&quot;")
		wantInverse(t, s)
	}
}

// awkward are parts that together form references, and almost references.
var awkward = []string{"&", "#", "x", "4", "c", ";", "lt", "amp;", "<", "\r", "\t", "\"", "é", "\xFF"}

// P5.1 to P5.4: all short strings of awkward parts.
func TestEveryShortString(t *testing.T) {
	every(awkward, 4, func(s string) {
		wantEscaped(t, s, escaped(s, false), escaped(s, true))
		wantInverse(t, s)
		compare(t, s)
	})
}

// P5.3, P5.4: all short strings with several references, and with what a reference can end in.
func TestEveryShortDocument(t *testing.T) {
	every([]string{"&lt;", "&amp;", "&#38;", "&#x26;", "&#233;", "&#8364;", "&#x1F600;", "&", ";", "é"}, 4, func(s string) {
		compare(t, s)
		wantInverse(t, s)
	})
}

// P5.2: references and the offsets after them.
func TestReference(t *testing.T) {
	for _, c := range []struct {
		s    string
		at   int
		r    rune
		next int
	}{
		{"&#x41;", 0, 'A', 6},
		{"&#0065;", 0, 'A', 7},
		{"a&#65;b", 1, 'A', 6},
		{"&#9;", 0, 9, 4},
		{"&#x9;", 0, 9, 5},
		{"&#xa;", 0, 10, 5},
		{"&#xA;", 0, 10, 5},
		{"&#xd;", 0, 13, 5},
		{"&#xD;", 0, 13, 5},
		{"&#10;", 0, 10, 5},
		{"&#x10;&#x20;", 6, 32, 12},
		{"&#xabcdef;&#xaB;", 10, 0xAB, 16},
		{"&#xaBcD;", 0, 0xABCD, 8},
		{"&#xEf;", 0, 0xEF, 6},
		{"&#X41;&#x41;", 6, 'A', 12},
		{"&amp;lt;", 0, '&', 5},
		{"&amp;&lt;", 5, '<', 9},
		{"&lt;;", 0, '<', 4},
		{"&&gt;", 1, '>', 5},
		{"\xFF&gt;\xFF", 1, '>', 5},
		{"é&quot;", 2, '"', 8},
		{"&#65;\x80", 0, 'A', 5},
		{"&#1114111;", 0, 0x10FFFF, 10},
		{"&#x10FFFF;", 0, 0x10FFFF, 10},
		{"&#x10ffff;", 0, 0x10FFFF, 10},
	} {
		wantReference(t, c.s, c.at, c.r, c.next)
		compare(t, c.s)
	}
}

// P5.2, P5.3: each of the names, at the beginning, at the end, and after another one.
func TestNames(t *testing.T) {
	for _, a := range names {
		wantReference(t, a.s, 0, a.r, len(a.s))
		wantReference(t, "x"+a.s+"y", 1, a.r, 1+len(a.s))
		wantUnescaped(t, a.s, string(a.r))
		wantUnescaped(t, "x"+a.s+"y", "x"+string(a.r)+"y")
		for _, b := range names {
			wantReference(t, a.s+b.s, 0, a.r, len(a.s))
			wantReference(t, a.s+b.s, len(a.s), b.r, len(a.s+b.s))
			wantUnescaped(t, a.s+b.s, string(a.r)+string(b.r))
			compare(t, a.s[:len(a.s)-1]+b.s)
			compare(t, a.s+b.s[1:])
		}
	}
}

// P5.2: names in another case, and unknown ones.
func TestUnknownNames(t *testing.T) {
	for _, name := range names {
		for mask := 1; mask < 1<<(len(name.s)-2); mask++ {
			s := []byte(name.s)
			for i := range len(s) - 2 {
				if mask>>i&1 == 1 {
					s[1+i] ^= 0x20
				}
			}
			wantNoReference(t, string(s), 0)
			wantWrong(t, string(s), 0)
		}
	}
	for _, name := range []string{
		"", " ", "nbsp", "copy", "hellip", "eacute", "AMP", "Amp", "l", "t", "g", "a", "q", "tl", "tg", "lt ", " lt", "lt\n", "ltt", "llt", "ampa", "ap", "apo", "aposs", "quo", "quote", "quott", "QUOT", "lt&", "amp&", "ltgt", "lt.", "lt:", "lt\x00", "\x00lt", "ｌｔ", "lté", "lt\xFF", "\xFFlt", "amp#", "#lt", "#amp", "#xlt", "xlt", "60", "x3c", "x3C", "colon", "semi", "num", "Lt", "lT", "gT", "_lt", "less", "lte", "le",
	} {
		wantNoReference(t, "&"+name+";", 0)
		wantNoReference(t, "a&"+name+";", 1)
		wantWrong(t, "a&"+name+";", 1)
	}
}

// P5.2, P5.3: strings in which no reference starts at the first byte.
func TestNoReference(t *testing.T) {
	for _, s := range []string{
		"", "a", ";", "#", "#65;", "lt;", "amp;", "x41;", "\x00", "\xFF", "\xC3&", " &lt;", "a&lt;", "<", ">", "\"", "'", "＆lt;", "é&lt;", "\xA6lt;", "%lt;", "'lt;",
	} {
		wantNoReference(t, s, 0)
	}
	for _, s := range []string{
		"&", "&;", "& ", "&&", "&&lt;", "&#", "&#;", "&#x", "&#x;", "&#xx;", "&x;", "&x41;", "&65;", "&#X41;", "&#X;", "&#XA;", "& lt;", "& #65;", "&# 65;", "&#65 ;", "&#6 5;", "&#x 41;", "&#x4 1;", "&#x41 ;", "&#65", "&#x41", "&lt", "&#65,", "&#65&", "&#65:", "&lt:", "&lt；", "&#65；",
		"&#+65;", "&#-65;", "&#65+;", "&#6+5;", "&#x+41;", "&#x-41;", "&#x4-1;", "&#-0;", "&#a;", "&#6a;", "&#a6;", "&#6F5;", "&#4c;", "&#xg;", "&#x4g;", "&#xg4;", "&#xG;", "&#x4G1;", "&#x4:1;", "&#x4/1;", "&#x4@1;", "&#x4`1;", "&#6:;", "&#6/;", "&#0x41;", "&#x0x41;", "&#x41h;", "&#65d;", "&#1_0;", "&#x1_0;", "&#1e1;", "&#6.5;", "&#65.;", "&#.65;", "&#6,5;", "&##65;", "&#x#41;", "&#\x0065;", "&#65\x00;", "&#6\xFF5;", "&#\xFF65;", "&#x4\xFF1;", "&#\n65;", "&#65\n;", "&#6\t5;", "&u0041;", "&\\#65;", "&amp", "&#38", "&#b101;", "&#o101;", "&#u41;", "&#x&lt;", "&#&lt;", "&#6&lt;",
		"&#0;", "&#x0;", "&#00;", "&#1;", "&#8;", "&#11;", "&#12;", "&#14;", "&#31;", "&#xb;", "&#xC;", "&#xE;", "&#x1f;", "&#xD800;", "&#xdfff;", "&#55296;", "&#57343;", "&#xFFFE;", "&#xffff;", "&#65534;", "&#65535;", "&#1114112;", "&#x110000;", "&#x7FFFFFFF;", "&#x80000000;",
	} {
		wantNoReference(t, s, 0)
		wantNoReference(t, "&lt;"+s, 4)
		wantWrong(t, s, 0)
		wantWrong(t, "&lt;x"+s+"&gt;", 5)
		compare(t, s)
		compare(t, "a"+s+";")
	}
}

// written returns the ways to write a number as a reference.
func written(n *big.Int) []string {
	small := n.Text(16)
	return []string{"&#" + n.String() + ";", "&#0" + n.String() + ";", "&#x" + small + ";", "&#x" + strings.ToUpper(small) + ";", "&#x000" + small + ";"}
}

// P5.2, P5.3: a reference to each number up to the greatest rune and some after it stands for an XML character or for nothing.
func TestEveryNumber(t *testing.T) {
	for n := rune(0); n <= unicode.MaxRune+0x100 && !t.Failed(); n++ {
		for _, s := range written(big.NewInt(int64(n))) {
			if !isChar(n) {
				wantNoReference(t, s, 0)
				wantWrong(t, s, 0)
				continue
			}
			wantReference(t, s, 0, n, len(s))
			wantUnescaped(t, s, encode(n))
		}
	}
}

// P5.2: the edges of the XML characters.
func TestEdges(t *testing.T) {
	for _, n := range []rune{9, 10, 13, 0x20, 0x7F, 0x80, 0x7FF, 0x800, 0xD7FF, 0xE000, 0xFFFD, 0x10000, 0xFFFFF, 0x100000, 0x10FFFE, 0x10FFFF} {
		for _, s := range written(big.NewInt(int64(n))) {
			wantReference(t, s, 0, n, len(s))
			wantReference(t, "é"+s+"0;", 2, n, 2+len(s))
			wantUnescaped(t, s+s, strings.Repeat(encode(n), 2))
		}
	}
	for _, n := range []rune{0, 1, 8, 11, 12, 14, 0x1F, 0xD800, 0xDBFF, 0xDC00, 0xDFFF, 0xFFFE, 0xFFFF, 0x110000, 0x110001, 0x10FFFFF, 0x7FFFFFFF} {
		for _, s := range written(big.NewInt(int64(n))) {
			wantNoReference(t, s, 0)
			wantWrong(t, "A"+s, 1)
		}
	}
}

// P5.2, P5.3: numbers that would be those of XML characters if some of their bits were lost.
func TestGreatNumbers(t *testing.T) {
	for _, bits := range []uint{21, 24, 31, 32, 33, 48, 52, 53, 62, 63, 64, 65, 96, 127, 128, 256, 1000} {
		for _, low := range []int64{-1, 0, 9, 10, 'A', 0xE9, 0xD7FF, 0x1F600, unicode.MaxRune} {
			for factor := int64(1); factor <= 17; factor++ {
				n := new(big.Int).Lsh(big.NewInt(factor), bits)
				n.Add(n, big.NewInt(low))
				for _, s := range written(n) {
					wantNoReference(t, s, 0)
					wantWrong(t, s, 0)
				}
			}
		}
	}
	// Appending digits to any of these numbers could bring one that wraps around back to a character.
	for n := int64(unicode.MaxRune + 1); n < 1<<40; n += n/50 + 1 {
		for _, s := range written(big.NewInt(n)) {
			wantNoReference(t, s, 0)
		}
	}
}

// P1, P5.2, P5.3: very many digits.
func TestManyDigits(t *testing.T) {
	for _, count := range []int{1, 2, 7, 8, 9, 10, 15, 16, 17, 19, 20, 21, 31, 32, 33, 63, 64, 65, 255, 256, 1000, 1 << 20} {
		zeros := strings.Repeat("0", count)
		for _, c := range []struct {
			start, digits string
			r             rune
		}{{"&#", "9", 9}, {"&#", "65", 'A'}, {"&#", "1114111", 0x10FFFF}, {"&#x", "9", 9}, {"&#x", "e9", 0xE9}, {"&#x", "1F600", 0x1F600}, {"&#x", "10fFFf", 0x10FFFF}} {
			s := c.start + zeros + c.digits + ";"
			wantReference(t, s, 0, c.r, len(s))
			wantUnescaped(t, "a"+s+"b", "a"+encode(c.r)+"b")
			wantNoReference(t, s[:len(s)-1], 0)
			wantNoReference(t, s[:len(s)-1]+"g;", 0)
		}
		for _, start := range []string{"&#", "&#x"} {
			wantNoReference(t, start+zeros+";", 0)
			wantWrong(t, "é"+start+zeros+";", 2)
			wantNoReference(t, start+"1114111"+zeros+";", 0)
			for _, digit := range []string{"1", "2", "3", "7", "8", "9"} {
				digits := strings.Repeat(digit, 6+count)
				wantNoReference(t, start+digits+"0;", 0)
				wantNoReference(t, start+"0"+digits+zeros+"65;", 0)
			}
		}
		for _, digit := range []string{"a", "f", "A", "F"} {
			wantNoReference(t, "&#x"+strings.Repeat(digit, 5+count)+";", 0)
		}
	}
}

// P5.2: of all runes, only ASCII digits are digits, and letters up to f only in hexadecimal numbers; this holds for each byte, too.
func TestEveryDigit(t *testing.T) {
	check := func(digit string, decimal, hexadecimal bool) {
		for _, c := range []struct {
			start, end string
			ok         bool
		}{{"&#", ";", decimal}, {"&#1", ";", decimal}, {"&#", "9;", decimal}, {"&#x", ";", hexadecimal}, {"&#x2", ";", hexadecimal}, {"&#x", "9;", hexadecimal}} {
			if c.ok {
				compare(t, c.start+digit+c.end)
			} else {
				wantNoReference(t, c.start+digit+c.end, 0)
			}
		}
	}
	for r := rune(1); r <= unicode.MaxRune && !t.Failed(); r++ {
		// With x as its first digit, a decimal number would become a hexadecimal one.
		if r != 'x' && (r < 0xD800 || r > 0xDFFF) {
			decimal := r >= '0' && r <= '9'
			check(string(r), decimal, decimal || r >= 'a' && r <= 'f' || r >= 'A' && r <= 'F')
		}
	}
	for b := 0x80; b <= 0xFF; b++ {
		check(string([]byte{byte(b)}), false, false)
	}
	check("\x00", false, false)
}

// samples have references of all forms.
var samples = []string{
	"&lt;", "&gt;", "&amp;", "&apos;", "&quot;", "&#65;", "&#x41;", "&#0;", "&#9;", "&#x1F600;", "&#00233;", "&#xaBc;", "&#1114111;", "&#x10fFFf;", "a&lt;&#38;é&quot;;", "&amp;#65;", "&&lt;&;", "&#55296;&#57344;",
}

// P5.2, P5.3: any byte in place of any other one, or before it, and each part left out or doubled, and each two bytes exchanged.
func TestEveryChange(t *testing.T) {
	for _, s := range samples {
		for i := range len(s) + 1 {
			for b := range 256 {
				compare(t, s[:i]+string([]byte{byte(b)})+s[i:])
				if i < len(s) {
					compare(t, s[:i]+string([]byte{byte(b)})+s[i+1:])
				}
			}
			compare(t, s[:i])
			compare(t, s[i:])
			for j := i + 1; j <= len(s); j++ {
				compare(t, s[:i]+s[j:])
				compare(t, s[:j]+s[i:])
			}
			for j := i + 1; j < len(s); j++ {
				exchanged := []byte(s)
				exchanged[i], exchanged[j] = exchanged[j], exchanged[i]
				compare(t, string(exchanged))
			}
		}
	}
}

// P5.2: a name with one byte left out, doubled or exchanged is no reference any more, but for a second semicolon and a second ampersand.
func TestChangedNames(t *testing.T) {
	for _, name := range names {
		s := name.s
		for i := range len(s) {
			wantNoReference(t, s[:i]+s[i+1:], 0)
			if i < len(s)-1 {
				wantNoReference(t, s[:i+1]+s[i:], 0)
			}
			for j := range i {
				exchanged := []byte(s)
				exchanged[i], exchanged[j] = exchanged[j], exchanged[i]
				wantNoReference(t, string(exchanged), 0)
			}
		}
		wantReference(t, s+";", 0, name.r, len(s))
		wantReference(t, "&"+s, 1, name.r, 1+len(s))
	}
}

// P5.2: offsets outside of the string, and those within a reference and after it.
func TestOffsets(t *testing.T) {
	for _, s := range append(slices.Clone(samples), "", "&", "a", "\xFF") {
		for _, at := range []int{
			math.MinInt, math.MinInt + 1, math.MinInt32 - 1, math.MinInt32, -1 << 16, -len(s) - 1, -len(s), -2, -1,
			len(s), len(s) + 1, len(s) + 2, 1 << 16, math.MaxInt32, math.MaxInt32 + 1, math.MaxUint32, math.MaxUint32 + 1, math.MaxInt - 1, math.MaxInt,
		} {
			wantNoReference(t, s, at)
		}
	}
	for _, s := range samples[:7] {
		for at := 1; at < len(s); at++ {
			wantNoReference(t, s, at)
			wantNoReference(t, s+";", at)
		}
		wantNoReference(t, s+"lt;", len(s))
		long := strings.Repeat("a&", 1000) + s
		r, n, _ := reference(s, 0)
		wantReference(t, long+long, 2000, r, 2000+n)
		wantReference(t, long+long, 4000+len(s), r, 4000+len(s)+n)
	}
}

// P5.3: strings with and without references.
func TestUnescape(t *testing.T) {
	for s, want := range map[string]string{
		"":                          "",
		"a":                         "a",
		";":                         ";",
		"#65;":                      "#65;",
		"lt;gt;":                    "lt;gt;",
		"a&lt;b":                    "a<b",
		"&lt;":                      "<",
		"&lt;&gt;&amp;&apos;&quot;": "<>&'\"",
		"&#x41;&#0065;":             "AA",
		"&amp;lt;":                  "&lt;",
		"&amp;amp;lt;":              "&amp;lt;",
		"&#38;lt;":                  "&lt;",
		"&#x26;#65;":                "&#65;",
		"&amp;&lt;":                 "&<",
		"&lt;;":                     "<;",
		"&#9;&#10;&#13;\t\n\r":      "\t\n\r\t\n\r",
		"<a b='\"'>":                "<a b='\"'>",
		"\x00\x01\uFFFE":            "\x00\x01\uFFFE",
		"\xFF&gt;\x80\xC3":          "\xFF>\x80\xC3",
		"\xC3&#169;":                "\xC3\xC2\xA9",
		"&#x7F;&#x80;":              "\x7F\xC2\x80",
		"&#x7ff;&#x800;":            "\xDF\xBF\xE0\xA0\x80",
		"&#xFFFD;&#x10000;":         "\xEF\xBF\xBD\xF0\x90\x80\x80",
		"&#xE9;&#x20AC;&#x1F600;":   "é€\U0001F600",
		"é&#65;€&#x10FFFF;":         "éA€\xF4\x8F\xBF\xBF",
	} {
		wantUnescaped(t, s, want)
		wantUnescaped(t, s+s, want+want)
		wantUnescaped(t, "x"+s+"y", "x"+want+"y")
		compare(t, s)
	}
}

// P5.3: the first of the wrong ampersands counts, whatever precedes and follows it.
func TestFirstWrongAmpersand(t *testing.T) {
	for _, c := range []struct {
		s  string
		at int
	}{
		{"&", 0}, {"a&", 1}, {"a&b", 1}, {"a&b;", 1}, {"&&", 0}, {"&&&", 0}, {"& &", 0}, {"&;&;", 0}, {"&lt;&", 4}, {"&&lt;", 0}, {"&amp;&amp", 5}, {"&amp&amp;", 0},
		{"&lt;&nbsp;&gt;&copy;", 4}, {"&#65;&#0;&#66;&#1;", 5}, {"&#0;&#65;", 0}, {"é&x", 2}, {"\xFF&", 1}, {"€&#8364;&#X20AC;", 10}, {"&amp;lt;&lt", 8}, {"&amp;&", 5}, {"&#38;&", 5},
		{"a&lt;b&gt;c& d&e;", 11}, {"<&>", 1}, {"\n&\n", 1}, {"&lt;\x00&\x00", 5}, {"AT&T", 2}, {"?a=1&b=2&lt=3", 4},
	} {
		wantWrong(t, c.s, c.at)
		wantWrong(t, c.s+"&", c.at)
		wantWrong(t, c.s+"&#xD800;", c.at)
		wantWrong(t, "&#x10FFFF;"+c.s, 10+c.at)
		wantWrong(t, strings.Repeat("&quot;", 1000)+c.s, 6000+c.at)
		compare(t, c.s)
	}
}

// P5.1, P5.4: each rune, alone and within others.
func TestEveryRune(t *testing.T) {
	for r := rune(0); r <= unicode.MaxRune && !t.Failed(); r++ {
		if r >= 0xD800 && r <= 0xDFFF {
			continue
		}
		s := "é" + string(r) + "<"
		wantEscaped(t, s, escaped(s, false), escaped(s, true))
		wantInverse(t, string(r))
		wantInverse(t, s)
	}
}

// P5.4: strings that are references, or escaped already.
func TestInverse(t *testing.T) {
	for _, s := range append(slices.Clone(samples), "", "&", "&amp", "&lt", "\r\n", "&nbsp;", "&#xD800;", "]]>", "<!--&-->", "\xC0\xA6lt;", "&\xFF;") {
		for range 4 {
			wantInverse(t, s)
			s = xmlescape.Attr(s) + xmlescape.Text(s)
		}
	}
}

// P1: long strings, with nothing but references and with none.
func TestLongStrings(t *testing.T) {
	const count = 1 << 20
	for b, with := range inText {
		wantEscaped(t, strings.Repeat(string(rune(b)), count), strings.Repeat(with, count), strings.Repeat(with, count))
	}
	for b, with := range inAttr {
		s := strings.Repeat(string(rune(b)), count)
		wantEscaped(t, s, s, strings.Repeat(with, count))
	}
	plain := strings.Repeat("a;é\xFF", count)
	wantEscaped(t, plain, plain, plain)
	wantUnescaped(t, plain, plain)
	for _, s := range []string{"&lt;", "&#65;", "&#x1F600;"} {
		r, _, _ := reference(s, 0)
		wantUnescaped(t, strings.Repeat(s, count), strings.Repeat(encode(r), count))
		wantWrong(t, strings.Repeat(s, count)+"&", count*len(s))
	}
	wantWrong(t, strings.Repeat("&", count), 0)
	wantWrong(t, plain+"&"+plain, len(plain))
}

// P1, P2: calls at the same time do not influence each other.
func TestConcurrentCalls(t *testing.T) {
	type answer struct {
		inText, inAttr, s string
		r                 rune
		next, at          int
		e, f              api.Errno
	}
	ask := func(s string) answer {
		var a answer
		a.inText, a.inAttr = xmlescape.Text(s), xmlescape.Attr(s)
		a.r, a.next, a.e = xmlescape.Reference(s, 0)
		a.s, a.at, a.f = xmlescape.Unescape(s)
		return a
	}
	want := map[string]answer{}
	every(awkward, 3, func(s string) { want[s] = ask(s) })
	for _, s := range samples {
		want[s] = ask(s)
	}
	var wg sync.WaitGroup
	for range 4 {
		wg.Go(func() {
			for s, a := range want {
				if got := ask(s); got != a {
					t.Errorf("%q: %v, then %v", s, a, got)
				}
			}
		})
	}
	wg.Wait()
}

// FuzzEscape checks the promises on arbitrary strings and offsets.
func FuzzEscape(f *testing.F) {
	for i, s := range samples {
		f.Add(s, i)
	}
	for i, s := range awkward {
		f.Add(fmt.Sprintf("&%s;%s", s, s), -i)
	}
	f.Fuzz(func(t *testing.T, s string, at int) {
		wantEscaped(t, s, escaped(s, false), escaped(s, true))
		wantInverse(t, s)
		compare(t, s)
		r, next, e := reference(s, at)
		if gotR, gotNext, gotE := xmlescape.Reference(s, at); gotR != r || gotNext != next || gotE != e {
			t.Errorf("Reference(%q, %d) = %#x, %d, %v; want %#x, %d, %v", s, at, gotR, gotNext, gotE, r, next, e)
		}
	})
}

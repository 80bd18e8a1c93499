package text_test

import (
	"math"
	"strings"
	"sync"
	"testing"

	"feedvault/api"
	"feedvault/text"
)

// encode writes a number in the UTF-8 pattern of a length, whether or not that is an encoding.
func encode(r rune, n int) string {
	if n == 1 {
		return string([]byte{byte(r)})
	}
	b := make([]byte, n)
	for i := n - 1; i > 0; i-- {
		b[i] = byte(0x80 | r&0x3F)
		r >>= 6
	}
	lead := []byte{2: 0xC0, 3: 0xE0, 4: 0xF0}
	b[0] = lead[n] | byte(r)
	return string(b)
}

// shortest returns the least length whose pattern has room for a rune.
func shortest(r rune) int {
	for n, bound := range []rune{1: 0x80, 2: 0x800, 3: 0x10000} {
		if r < bound {
			return n
		}
	}
	return 4
}

func surrogate(r rune) bool { return r >= 0xD800 && r <= 0xDFFF }

func wantDecode(t *testing.T, s string, at int, r rune, n int) {
	t.Helper()
	if gotR, gotN := text.Decode(s, at); gotR != r || gotN != n {
		t.Errorf("Decode(%q, %d) = %#x, %d; want %#x, %d", s, at, gotR, gotN, r, n)
	}
}

// P1.1: every rune is decoded from its shortest encoding, with any bytes around it.
func TestDecodeEveryRune(t *testing.T) {
	for r := rune(0); r <= 0x10FFFF && !t.Failed(); r++ {
		if surrogate(r) {
			continue
		}
		n := shortest(r)
		s := encode(r, n)
		wantDecode(t, s, 0, r, n)
		wantDecode(t, "\xE2"+s+"\x80", 1, r, n)
		wantDecode(t, "é"+s+"z", 2, r, n)
		for i := 1; i < n; i++ {
			wantDecode(t, s[:i], 0, 0, 0)
			wantDecode(t, s[:i]+"a", 0, 0, 0)
			wantDecode(t, s, i, 0, 0)
		}
	}
}

// P1.1: an encoding that is longer than the shortest one is invalid.
func TestDecodeOverlong(t *testing.T) {
	for r := rune(0); r < 0x10000 && !t.Failed(); r++ {
		for n := shortest(r) + 1; n <= 4; n++ {
			wantDecode(t, encode(r, n), 0, 0, 0)
		}
	}
}

// P1.1: neither surrogates nor numbers above 10FFFF have an encoding.
func TestDecodeNoRune(t *testing.T) {
	for r := rune(0xD800); r <= 0xDFFF && !t.Failed(); r++ {
		wantDecode(t, encode(r, 3), 0, 0, 0)
	}
	for r := rune(0x110000); r <= 0x1FFFFF && !t.Failed(); r++ {
		wantDecode(t, encode(r, 4), 0, 0, 0)
	}
	wantDecode(t, "\xED\x9F\xBF", 0, 0xD7FF, 3)
	wantDecode(t, "\xEE\x80\x80", 0, 0xE000, 3)
	wantDecode(t, "\xF4\x8F\xBF\xBF", 0, 0x10FFFF, 4)
	wantDecode(t, "\xED\xA0\xBD\xED\xB8\x80", 0, 0, 0)
}

// P1.1: a byte of the wrong kind at any place of an encoding makes it invalid.
func TestDecodeWrongBytes(t *testing.T) {
	for b := 0x80; b <= 0xFF; b++ {
		wantDecode(t, string([]byte{byte(b)}), 0, 0, 0)
		if b < 0xC0 || b > 0xF7 {
			wantDecode(t, string([]byte{byte(b), 0x80, 0x80, 0x80, 0x80, 0x80}), 0, 0, 0)
		}
	}
	for _, s := range []string{"\xC3\xA9", "\xE2\x82\xAC", "\xF0\x9F\x98\x80"} {
		for i := 1; i < len(s); i++ {
			for b := range 256 {
				if b&0xC0 != 0x80 {
					wantDecode(t, s[:i]+string([]byte{byte(b)})+s[i+1:], 0, 0, 0)
				}
			}
		}
	}
}

// P1.1: no encoding starts at an offset outside the string.
func TestDecodeOffsets(t *testing.T) {
	for _, s := range []string{"", "a", "aé", "\xFF"} {
		for _, at := range []int{math.MinInt, math.MinInt32, -2, -1, len(s), len(s) + 1, math.MaxInt32, math.MaxInt} {
			wantDecode(t, s, at, 0, 0)
		}
	}
	s := "a\u00E9\u20AC\U0001F600\x00"
	for at, want := range map[int]rune{0: 'a', 1: 0xE9, 3: 0x20AC, 6: 0x1F600, 10: 0} {
		wantDecode(t, s, at, want, shortest(want))
	}
	wantDecode(t, "\uFFFD", 0, 0xFFFD, 3)
	wantDecode(t, "\xEF\xBF\xBD\xFF", 3, 0, 0)
}

// P1.2: Check stops at the first offset that is wrong, with the error that belongs there.
func TestCheck(t *testing.T) {
	for _, c := range []struct {
		s  string
		at int
		e  api.Errno
	}{
		{"", 0, api.OK},
		{"plain text", 10, api.OK},
		{"\t\n\r ~\x7F\u0080\u0085", 10, api.OK},
		{"\uD7FF\uE000\uFFFD\U00010000\U0010FFFF", 17, api.OK},
		{"ab\x00", 2, api.ErrChar},
		{"\x08", 0, api.ErrChar},
		{"a\x0B", 1, api.ErrChar},
		{"a\x0C", 1, api.ErrChar},
		{"a\x0E", 1, api.ErrChar},
		{"a\x1Fb", 1, api.ErrChar},
		{"é\uFFFE", 2, api.ErrChar},
		{"€\uFFFF", 3, api.ErrChar},
		{"\xFF", 0, api.ErrUTF8},
		{"a\xFF", 1, api.ErrUTF8},
		{"a\x80b", 1, api.ErrUTF8},
		{"a\xC0\x80", 1, api.ErrUTF8},
		{"a\xE0\x9F\xBF", 1, api.ErrUTF8},
		{"a\xF0\x8F\xBF\xBD", 1, api.ErrUTF8},
		{"a\xED\xA0\x80", 1, api.ErrUTF8},
		{"a\xED\xBF\xBF", 1, api.ErrUTF8},
		{"a\xF4\x90\x80\x80", 1, api.ErrUTF8},
		{"é\xE2\x82", 2, api.ErrUTF8},
		{"\x01\xFF", 0, api.ErrChar},
		{"\xFF\x01", 0, api.ErrUTF8},
		{"a\uFFFE\xFF\x00", 1, api.ErrChar},
		{"a\xFF\x00\uFFFE", 1, api.ErrUTF8},
	} {
		if at, e := text.Check(c.s); at != c.at || e != c.e {
			t.Errorf("Check(%q) = %d, %v; want %d, %v", c.s, at, e, c.at, c.e)
		}
	}
}

// P1.2: Check accepts exactly the XML characters of all runes.
func TestCheckEveryRune(t *testing.T) {
	for r := rune(0); r <= 0x10FFFF && !t.Failed(); r++ {
		n := shortest(r)
		s := "é" + encode(r, n) + "z"
		wantAt, wantE := len(s), api.OK
		switch {
		case surrogate(r):
			wantAt, wantE = 2, api.ErrUTF8
		case !text.IsChar(r):
			wantAt, wantE = 2, api.ErrChar
		}
		if at, e := text.Check(s); at != wantAt || e != wantE {
			t.Errorf("Check(%q) = %d, %v; want %d, %v", s, at, e, wantAt, wantE)
		}
	}
}

// interval is a range of runes as the chapter writes it.
type interval struct{ first, last rune }

var charIntervals = []interval{
	{0x9, 0x9}, {0xA, 0xA}, {0xD, 0xD}, {0x20, 0xD7FF}, {0xE000, 0xFFFD}, {0x10000, 0x10FFFF},
}

var startIntervals = []interval{
	{'A', 'Z'}, {'a', 'z'}, {'_', '_'},
	{0xC0, 0xD6}, {0xD8, 0xF6}, {0xF8, 0x2FF}, {0x370, 0x37D}, {0x37F, 0x1FFF}, {0x200C, 0x200D}, {0x2070, 0x218F},
	{0x2C00, 0x2FEF}, {0x3001, 0xD7FF}, {0xF900, 0xFDCF}, {0xFDF0, 0xFFFD}, {0x10000, 0xEFFFF},
}

var furtherIntervals = []interval{
	{'0', '9'}, {'-', '-'}, {'.', '.'}, {0xB7, 0xB7}, {0x300, 0x36F}, {0x203F, 0x2040},
}

// within reports whether a rune is in one of the intervals.
func within(r rune, list []interval) bool {
	for _, x := range list {
		if x.first <= r && r <= x.last {
			return true
		}
	}
	return false
}

// P1.3: the classes contain exactly the runes of the chapter's ranges, and nothing outside of Unicode.
func TestClassesOfEveryRune(t *testing.T) {
	check := func(r rune) {
		start := within(r, startIntervals)
		if got := text.IsChar(r); got != within(r, charIntervals) {
			t.Errorf("IsChar(%#x) = %v", r, got)
		}
		if got := text.IsNameStart(r); got != start {
			t.Errorf("IsNameStart(%#x) = %v", r, got)
		}
		if got := text.IsNameChar(r); got != (start || within(r, furtherIntervals)) {
			t.Errorf("IsNameChar(%#x) = %v", r, got)
		}
	}
	for r := rune(-0x200); r <= 0x110200 && !t.Failed(); r++ {
		check(r)
	}
	for _, r := range []rune{math.MinInt32, math.MinInt32 + 1, -0x10000, 0x1FFFFF, 0x200000, math.MaxInt32 - 1, math.MaxInt32} {
		check(r)
	}
}

// P1.3: the bounds of every range, as single examples.
func TestClassBounds(t *testing.T) {
	for _, list := range [][]interval{startIntervals, furtherIntervals} {
		for _, x := range list {
			if !text.IsNameChar(x.first) || !text.IsNameChar(x.last) {
				t.Errorf("range %#x to %#x: a bound is no name character", x.first, x.last)
			}
		}
	}
	for _, r := range []rune{'@', '[', '`', '{', '^', '/', ':', ',', 0xB6, 0xB8, 0xBF, 0xD7, 0xF7, 0x37E, 0x2000, 0x200B, 0x200E, 0x203E, 0x2041, 0x206F, 0x2190, 0x2BFF, 0x2FF0, 0x3000, 0xD800, 0xDFFF, 0xE000, 0xF8FF, 0xFDD0, 0xFDEF, 0xFFFE, 0xFFFF, 0xF0000, 0x10FFFF, 0x110000} {
		if text.IsNameChar(r) || text.IsNameStart(r) {
			t.Errorf("%#x is a name character", r)
		}
	}
	for _, x := range furtherIntervals {
		if text.IsNameStart(x.first) || text.IsNameStart(x.last) {
			t.Errorf("range %#x to %#x: a name starts with a bound", x.first, x.last)
		}
	}
}

// P1.3: names, strings that are almost names, and invalid UTF-8.
func TestIsName(t *testing.T) {
	for _, s := range []string{"a", "Z", "_", "a-1", "a.b", "a-", "_0", "é", "é·", "a\u0300", "a\u203F\u2040", "\u200C", "\uD7FF", "\uFFFD", "\U00010000\U000EFFFF", "title", strings.Repeat("a1", 1000)} {
		if !text.IsName(s) {
			t.Errorf("%q is a name", s)
		}
	}
	for _, s := range []string{"", "1a", "-a", ".a", "·", "\u0300a", "\u203F", "a:b", ":", ":a", "a:", "a b", " a", "a ", "a\n", "a\x00", "\x00", "a/", "a\u00D7b", "a\u037E", "a\u2190", "a\U000F0000", "\U0010FFFF", "a\uFFFE"} {
		if text.IsName(s) {
			t.Errorf("%q is not a name", s)
		}
	}
	for _, s := range []string{"\xFF", "a\xFF", "\xFFa", "a\xFFb", "a\x80", "\xC3", "a\xC3", "é\xA9", "a\xC1\xA1", "\xC1\xA1", "a\xED\xA0\x80", "\xED\xA0\x80", "a\xF4\x90\x80\x80", "\xEF\xBF", "a\xEF\xBF"} {
		if text.IsName(s) {
			t.Errorf("%q is not valid UTF-8", s)
		}
	}
}

// P1.3: of all bytes, only four are white space.
func TestIsSpace(t *testing.T) {
	for i := range 256 {
		want := i == 9 || i == 10 || i == 13 || i == 32
		if got := text.IsSpace(byte(i)); got != want {
			t.Errorf("IsSpace(%d) = %v", i, got)
		}
	}
}

// P1.4: white space at the ends, between words, of each kind; bytes that only look like it stay.
func TestCollapse(t *testing.T) {
	for s, want := range map[string]string{
		"":                               "",
		" ":                              "",
		"\t":                             "",
		"\n":                             "",
		"\r":                             "",
		"\r\n \t\r":                      "",
		"a":                              "a",
		"\na  b\t":                       "a b",
		"a\tb":                           "a b",
		"a\nb":                           "a b",
		"a\rb":                           "a b",
		"a b":                            "a b",
		"\r\na\r\n\r\nb \t\n\rc\t":       "a b c",
		"\x0Ba\x0C":                      "\x0Ba\x0C",
		"a\x00 \x00b":                    "a\x00 \x00b",
		"a\x0B\x0Bb":                     "a\x0B\x0Bb",
		"\u00A0\u00A0x\u2003 \u0085":     "\u00A0\u00A0x\u2003 \u0085",
		" \xFF \n\xFE\x80\t":             "\xFF \xFE\x80",
		"\xE2\x82 \xAC":                  "\xE2\x82 \xAC",
		"\xC0\xA0 \xC0\x8A":              "\xC0\xA0 \xC0\x8A",
		" \xEF\xBF ":                     "\xEF\xBF",
		"é  \U0001F600":                  "é \U0001F600",
		strings.Repeat(" ", 1000) + "x":  "x",
		"x" + strings.Repeat("\n", 1000): "x",
	} {
		if got := text.Collapse(s); got != want {
			t.Errorf("Collapse(%q) = %q; want %q", s, got, want)
		}
	}
}

// P1.4: Valid asks for both, characters and the collapsed form.
func TestValid(t *testing.T) {
	for _, s := range []string{"", "a", "a b", "a b c", "é \U0001F600", "\u00A0", "\u00A0\u00A0", "\x7F", "\uFFFD", "a\u2003\u2003b"} {
		if !text.Valid(s) {
			t.Errorf("%q is valid", s)
		}
	}
	for _, s := range []string{" ", " a", "a ", "a  b", "a\tb", "a\nb", "a\rb", "\ta", "a\n", "\r", "a\x00", "\x0B", "a\x1F", "a\uFFFE", "\uFFFF", "a\xFF", "\x80", "\xC0\x80", "\xED\xA0\x80", "a \xE2\x82", "a  \xFF", " \x00"} {
		if text.Valid(s) {
			t.Errorf("%q is not valid", s)
		}
	}
}

// collapsed is the chapter's definition of a collapsed string.
func collapsed(s string) bool {
	return !strings.HasPrefix(s, " ") && !strings.HasSuffix(s, " ") && !strings.ContainsAny(s, "\t\n\r") && !strings.Contains(s, "  ")
}

// every calls f with all strings of at most n of the parts.
func every(parts []string, n int, f func(string)) {
	var visit func(s string, n int)
	visit = func(s string, n int) {
		f(s)
		if n > 0 {
			for _, p := range parts {
				visit(s+p, n-1)
			}
		}
	}
	visit("", n)
}

// P1.4, P1.5: on all short strings, Collapse agrees with splitting into words, its results are collapsed, and collapsed strings are unchanged.
func TestCollapseEveryShortString(t *testing.T) {
	every([]string{"a", "é", "\xFF", "\x0B", "\x00", " ", "\t", "\n", "\r"}, 5, func(s string) {
		words := strings.FieldsFunc(s, func(r rune) bool { return r == 9 || r == 10 || r == 13 || r == 32 })
		want := strings.Join(words, " ")
		got := text.Collapse(s)
		if got != want {
			t.Errorf("Collapse(%q) = %q; want %q", s, got, want)
		}
		if !collapsed(got) || text.Collapse(got) != got {
			t.Errorf("Collapse(%q) = %q, which is not collapsed", s, got)
		}
		if collapsed(s) && got != s {
			t.Errorf("Collapse(%q) = %q changes a collapsed string", s, got)
		}
		_, e := text.Check(s)
		if valid := text.Valid(s); valid != (e == api.OK && collapsed(s)) {
			t.Errorf("Valid(%q) = %v", s, valid)
		}
	})
}

// P1.5: the concatenation of two names is a name.
func TestNamesConcatenate(t *testing.T) {
	var names []string
	every([]string{"a", "_", "1", "-", ".", "·", "é", "\U000EFFFF", ":", "\xFF"}, 2, func(s string) {
		if text.IsName(s) {
			names = append(names, s)
		}
	})
	if len(names) != 4+4*8 {
		t.Fatalf("%d names: %q", len(names), names)
	}
	for _, a := range names {
		for _, b := range names {
			if !text.IsName(a + b) {
				t.Errorf("%q is not a name", a+b)
			}
		}
	}
}

// P1, P2: calls on arbitrary bytes end, and calls at the same time do not influence each other.
func TestConcurrentCalls(t *testing.T) {
	type answer struct {
		r        rune
		n, at    int
		e        api.Errno
		name, ok bool
		s        string
	}
	ask := func(s string) answer {
		var a answer
		a.r, a.n = text.Decode(s, 1)
		a.at, a.e = text.Check(s)
		a.name, a.ok, a.s = text.IsName(s), text.Valid(s), text.Collapse(s)
		return a
	}
	want := map[string]answer{}
	every([]string{"a", " ", "\n", "\x00", "\x80", "\xC3", "\xE2", "\xF0", "\xFF"}, 4, func(s string) { want[s] = ask(s) })
	var wg sync.WaitGroup
	for range 4 {
		wg.Go(func() {
			for s, a := range want {
				if got := ask(s); got != a {
					t.Errorf("%q: %v, then %v", s, a, got)
				}
			}
		})
	}
	wg.Wait()
}

// FuzzText checks the promises on arbitrary strings and offsets.
func FuzzText(f *testing.F) {
	for _, s := range []string{"", "a-1", "\na  b\t", "ab\x00", "a\xFF", "\uFFFD\uFFFE", "\xED\xA0\x80"} {
		f.Add(s, 1)
	}
	f.Fuzz(func(t *testing.T, s string, at int) {
		if r, n := text.Decode(s, at); n != 0 && (n != shortest(r) || s[at:at+n] != encode(r, n)) || n == 0 && r != 0 {
			t.Errorf("Decode(%q, %d) = %#x, %d", s, at, r, n)
		}
		end, e := text.Check(s)
		if _, before := text.Check(s[:end]); before != api.OK || (e == api.OK) != (end == len(s)) {
			t.Errorf("Check(%q) = %d, %v", s, end, e)
		}
		got := text.Collapse(s)
		if !collapsed(got) || text.Collapse(got) != got || collapsed(s) && got != s {
			t.Errorf("Collapse(%q) = %q", s, got)
		}
		if text.Valid(s) != (e == api.OK && collapsed(s)) {
			t.Errorf("Valid(%q)", s)
		}
		if text.IsName(s) && (e != api.OK || !text.IsName(s+s) || !text.IsName(s+"a")) {
			t.Errorf("IsName(%q)", s)
		}
	})
}

package jsonstring_test

import (
	"encoding/json"
	"fmt"
	"math"
	"slices"
	"strings"
	"sync"
	"testing"
	"unicode"

	"feedvault/api"
	"feedvault/jsonstring"
)

func wantQuoted(t *testing.T, s, want string) {
	t.Helper()
	if got, e := jsonstring.Quote(s); got != want || e != api.OK {
		t.Errorf("Quote(%.200q) = %.200q, %v; want %.200q", s, got, e, want)
	}
}

func wantNotQuoted(t *testing.T, s string) {
	t.Helper()
	if got, e := jsonstring.Quote(s); got != "" || e != api.ErrUTF8 {
		t.Errorf("Quote(%.200q) = %.200q, %v; want %v", s, got, e, api.ErrUTF8)
	}
}

func wantParsed(t *testing.T, s string, at int, want string, next int) {
	t.Helper()
	if got, gotNext, e := jsonstring.Parse(s, at); got != want || gotNext != next || e != api.OK {
		t.Errorf("Parse(%.200q, %d) = %.200q, %d, %v; want %.200q, %d", s, at, got, gotNext, e, want, next)
	}
}

func wantError(t *testing.T, s string, at, where int, want api.Errno) {
	t.Helper()
	if got, gotWhere, e := jsonstring.Parse(s, at); got != "" || gotWhere != where || e != want {
		t.Errorf("Parse(%.200q, %d) = %.200q, %d, %v; want %d, %v", s, at, got, gotWhere, e, where, want)
	}
}

// wantMeaning checks a JSON string without its quotes, alone and between other bytes.
func wantMeaning(t *testing.T, items, want string) {
	t.Helper()
	s := `"` + items + `"`
	wantParsed(t, s, 0, want, len(s))
	wantParsed(t, "x\""+s+"\"x", 2, want, 2+len(s))
}

// wantFault checks that the first fault within a string, without the quotes, is at an offset; what precedes and follows it does not matter.
func wantFault(t *testing.T, items string, where int, want api.Errno) {
	t.Helper()
	wantError(t, `"`+items+`"`, 0, 1+where, want)
	wantError(t, `"`+items+`x"y`, 0, 1+where, want)
	wantError(t, `"`+items+`"`+"\x00\xFF\"", 0, 1+where, want)
	wantError(t, "\xFF\x00\\\""+items+`"`, 3, 4+where, want)
	wantError(t, `"a\né\u00e9`+items+`"`, 0, 12+where, want)
}

// wantInverse checks that Parse inverts Quote, with bytes before and behind.
func wantInverse(t *testing.T, s string) {
	t.Helper()
	quoted, e := jsonstring.Quote(s)
	if e != api.OK {
		t.Errorf("Quote(%.200q): %v", s, e)
		return
	}
	for _, before := range []string{"", "x", `"`, `\`, "é\xFF\x00"} {
		for _, behind := range []string{"", "x", `"`, `\`, "\x00\xFF", quoted} {
			wantParsed(t, before+quoted+behind, len(before), s, len(before)+len(quoted))
		}
	}
}

// compare compares Parse, at all offsets and next to them, and Quote with the definitions.
func compare(t *testing.T, s string) {
	t.Helper()
	for at := -1; at <= len(s)+1; at++ {
		want, next, e := parse(s, at)
		if got, gotNext, gotE := jsonstring.Parse(s, at); got != want || gotNext != next || gotE != e {
			t.Errorf("Parse(%q, %d) = %q, %d, %v; want %q, %d, %v", s, at, got, gotNext, gotE, want, next, e)
		}
	}
	want, e := quote(s)
	if got, gotE := jsonstring.Quote(s); got != want || gotE != e {
		t.Errorf("Quote(%q) = %q, %v; want %q, %v", s, got, gotE, want, e)
	}
}

// every calls f with all strings of at most n of the parts.
func every(parts []string, n int, f func(string)) {
	var visit func(s string, n int)
	visit = func(s string, n int) {
		f(s)
		if n > 0 {
			for _, p := range parts {
				visit(s+p, n-1)
			}
		}
	}
	visit("", n)
}

// awkward are parts that together form JSON strings, and almost JSON strings.
var awkward = []string{`"`, `\`, "u", "d83d", "De00", `\uDBFF`, `\udc00`, "00e9", "n", "\n", "é", "\xC3", "\xA9", "x"}

// samples have items of all forms.
var samples = []string{
	`""`, `"a"`, `"\n"`, `"\u00e9"`, `"\u00C9\"\\\/"`, `"\b\f\n\r\t"`, `"\ud83d\ude00"`, `"x\uDBFF\uDFFFy"`, `"é€😀"`, `"\u0000\uFFFF"`,
}

// notUTF8 are sequences of bytes at whose beginning no encoding starts, whatever ASCII byte follows.
var notUTF8 = []string{
	"\x80", "\x8F", "\x90", "\x9F", "\xA0", "\xBF", "\x80\x80", "\xC0", "\xC0\x80", "\xC1\xBF", "\xC0\xA2", "\xC1\x9C", "\xC2", "\xC3", "\xDF", "\xC3\xC3", "\xC3\xC0\xA9", "\xE0", "\xE0\xA0", "\xE0\x80\x80", "\xE0\x9F\xBF", "\xE2\x82", "\xE2\x28\xA1", "\xE2\x82\x28", "\xED\xA0\x80", "\xED\xA0\xBD\xED\xB8\x80", "\xED\xAF\xBF", "\xED\xB0\x80", "\xED\xBF\xBF", "\xED\xA0", "\xEF", "\xEF\xBF", "\xF0", "\xF0\x9F", "\xF0\x9F\x98", "\xF0\x80\x80\x80", "\xF0\x8F\xBF\xBF", "\xF0\x9F\x98\x28", "\xF4\x90\x80\x80", "\xF4\xBF\xBF\xBF", "\xF5\x80\x80\x80", "\xF7\xBF\xBF\xBF", "\xF8\x88\x80\x80\x80", "\xFC\x84\x80\x80\x80\x80", "\xFE", "\xFF", "\xFF\xFF",
}

// edges are the first and the last rune of each length, those beside D800 and DFFF, and some others that stand for themselves.
var edges = []string{
	" ", "!", "#", "'", "/", "0", "[", "]", "a", "u", "~", "\x7F", "\u0080", "\u0085", "\u00A0", "\u00E9", "\u07FF", "\u0800", "\u2028", "\u2029", "\uD7FF", "\uE000", "\uFEFF", "\uFFFD", "\uFFFE", "\uFFFF", "\U00010000", "\U0001F600", "\U0010FFFF",
}

// P10.1: the escape sequences, and what only looks as if it needed one.
func TestQuote(t *testing.T) {
	for s, want := range map[string]string{
		"":                     `""`,
		"a":                    `"a"`,
		"a\n\"":                `"a\n\""`,
		`"`:                    `"\""`,
		`""`:                   `"\"\""`,
		`\`:                    `"\\"`,
		`\\`:                   `"\\\\"`,
		`\"`:                   `"\\\""`,
		`\n`:                   `"\\n"`,
		`\u0041`:               `"\\u0041"`,
		"/":                    `"/"`,
		"</a>":                 `"</a>"`,
		"<&>'":                 `"<&>'"`,
		"\x00":                 `"\u0000"`,
		"\x01":                 `"\u0001"`,
		"\x02":                 `"\u0002"`,
		"\x03":                 `"\u0003"`,
		"\x04":                 `"\u0004"`,
		"\x05":                 `"\u0005"`,
		"\x06":                 `"\u0006"`,
		"\x07":                 `"\u0007"`,
		"\x08":                 `"\b"`,
		"\x09":                 `"\t"`,
		"\x0A":                 `"\n"`,
		"\x0B":                 `"\u000b"`,
		"\x0C":                 `"\f"`,
		"\x0D":                 `"\r"`,
		"\x0E":                 `"\u000e"`,
		"\x0F":                 `"\u000f"`,
		"\x10":                 `"\u0010"`,
		"\x11":                 `"\u0011"`,
		"\x12":                 `"\u0012"`,
		"\x13":                 `"\u0013"`,
		"\x14":                 `"\u0014"`,
		"\x15":                 `"\u0015"`,
		"\x16":                 `"\u0016"`,
		"\x17":                 `"\u0017"`,
		"\x18":                 `"\u0018"`,
		"\x19":                 `"\u0019"`,
		"\x1A":                 `"\u001a"`,
		"\x1B":                 `"\u001b"`,
		"\x1C":                 `"\u001c"`,
		"\x1D":                 `"\u001d"`,
		"\x1E":                 `"\u001e"`,
		"\x1F":                 `"\u001f"`,
		" ":                    `" "`,
		"\x7F":                 "\"\x7F\"",
		"\x00\x00":             `"\u0000\u0000"`,
		"0\x001":               `"0\u00001"`,
		"\r\n":                 `"\r\n"`,
		"é\n€\t\U0001F600\x1F": "\"é\\n€\\t\U0001F600\\u001f\"",
	} {
		wantQuoted(t, s, want)
		wantMeaning(t, want[1:len(want)-1], s)
		wantInverse(t, s)
	}
}

// P10.1, P10.3: the runes at the edges stand for themselves, next to each other and next to escape sequences.
func TestQuoteEdges(t *testing.T) {
	for _, a := range edges {
		wantQuoted(t, a, `"`+a+`"`)
		wantQuoted(t, "\n"+a+"\\", `"\n`+a+`\\"`)
		for _, b := range edges {
			wantQuoted(t, a+b, `"`+a+b+`"`)
			wantMeaning(t, a+b, a+b)
			wantInverse(t, a+"\""+b)
		}
	}
}

// P10.1 to P10.3: each rune, alone and within others.
func TestEveryRune(t *testing.T) {
	for r := rune(0); r <= unicode.MaxRune && !t.Failed(); r++ {
		if r >= 0xD800 && r <= 0xDFFF {
			continue
		}
		for _, s := range []string{string(r), "é" + string(r) + "n"} {
			want, _ := quote(s)
			wantQuoted(t, s, want)
			wantParsed(t, want, 0, s, len(want))
			if r < 0x300 {
				wantInverse(t, s)
			}
		}
	}
}

// P10.1: strings that are not valid UTF-8, wherever the fault is, and whatever must be escaped there.
func TestQuoteInvalid(t *testing.T) {
	for _, s := range notUTF8 {
		for _, before := range []string{"", "a", "\n", `"`, `\`, "\x00", "é", "\U0001F600", strings.Repeat("a", 1000)} {
			for _, behind := range []string{"", "a", "\n", `"`, "\x00", "é", strings.Repeat("a", 1000)} {
				wantNotQuoted(t, before+s+behind)
			}
		}
		wantNotQuoted(t, s+s)
	}
	for b := 0x80; b <= 0xFF; b++ {
		wantNotQuoted(t, string([]byte{byte(b)}))
		wantNotQuoted(t, string([]byte{'a', byte(b), 'b'}))
	}
}

// P10.1 to P10.3: each two bytes.
func TestEveryTwoBytes(t *testing.T) {
	for b := range 256 * 256 {
		s := string([]byte{byte(b >> 8), byte(b)})
		compare(t, s)
		compare(t, `"`+s)
		compare(t, `"`+s+`"`)
		if _, e := quote(s); e == api.OK {
			wantInverse(t, s)
		}
	}
}

// P10.2: JSON strings at offsets, with bytes behind the closing quote.
func TestParse(t *testing.T) {
	for _, c := range []struct {
		s    string
		at   int
		want string
		next int
	}{
		{`""`, 0, "", 2},
		{`"a"`, 0, "a", 3},
		{`"\u0041\ud83d\ude00"`, 0, "A\U0001F600", 20},
		{`x"a"`, 1, "a", 4},
		{`x"a"y`, 1, "a", 4},
		{`""x`, 0, "", 2},
		{`"""`, 0, "", 2},
		{`"""`, 1, "", 3},
		{`""""`, 2, "", 4},
		{`"a"b"c"`, 0, "a", 3},
		{`"a"b"c"`, 2, "b", 5},
		{`"a"b"c"`, 4, "c", 7},
		{`"a\"b"`, 3, "b", 6},
		{`"\""`, 0, `"`, 4},
		{`"\\"`, 0, `\`, 4},
		{`"\\""`, 0, `\`, 4},
		{`"\\\""`, 0, `\"`, 6},
		{`{"a": "b\n"}`, 1, "a", 4},
		{`{"a": "b\n"}`, 6, "b\n", 11},
		{"\xFF\x00\"a\"\xFF\x00", 2, "a", 5},
		{"\"a\"\n\\", 0, "a", 3},
		{`"a"\u12`, 0, "a", 3},
		{"\"\x7F\"", 0, "\x7F", 3},
		{`"/"`, 0, "/", 3},
		{`"'"`, 0, "'", 3},
		{`" "`, 0, " ", 3},
		{`"n\nu\u0075"`, 0, "n\nuu", 12},
		{`"\u005c"`, 0, `\`, 8},
		{`"\u005cn"`, 0, `\n`, 9},
		{`"\u005Cu0041"`, 0, `\u0041`, 13},
		{`"\u0022"`, 0, `"`, 8},
		{`"\u00000"`, 0, "\x000", 9},
		{`"\u00410042"`, 0, "A0042", 12},
		{`"\u0041u0042"`, 0, "Au0042", 13},
		{`"\ud83d\ude000"`, 0, "\U0001F6000", 15},
		{`"\ud83d\ude00\ud83d\ude01"`, 0, "\U0001F600\U0001F601", 26},
		{`"\\ud83d"`, 0, `\ud83d`, 9},
		{`"\\\ud83d\ude00"`, 0, "\\\U0001F600", 16},
		{`"\u000a\u000D\u0009"`, 0, "\n\r\t", 20},
		{`"\u001f\u007f\u0080"`, 0, "\x1F\x7F\u0080", 20},
	} {
		wantParsed(t, c.s, c.at, c.want, c.next)
		wantParsed(t, strings.Repeat(`"\`, 500)+c.s, 1000+c.at, c.want, 1000+c.next)
		compare(t, c.s)
	}
	wantParsed(t, "\"\u00E9\U0001F600\"", 0, "\u00E9\U0001F600", 8)
	for _, s := range edges {
		wantMeaning(t, s, s)
	}
}

// P10.2: offsets at which there is no double quote, and those outside of the string.
func TestNoQuote(t *testing.T) {
	for b := range 256 {
		if b != '"' {
			wantError(t, string([]byte{byte(b)}), 0, 0, api.ErrSyntax)
			wantError(t, string([]byte{byte(b), '"', '"'}), 0, 0, api.ErrSyntax)
			wantError(t, string([]byte{'"', byte(b), '"'}), 1, 1, api.ErrSyntax)
			wantError(t, string([]byte{'"', '"', byte(b)}), 2, 2, api.ErrSyntax)
		}
	}
	for _, s := range append(slices.Clone(samples), "", "a", `"`, `\"`, "\xFF", strings.Repeat(`"`, 100)) {
		for _, at := range []int{
			math.MinInt, math.MinInt + 1, math.MinInt32 - 1, math.MinInt32, -1 << 16, -len(s) - 1, -len(s) - 2, -2, -1,
			len(s), len(s) + 1, len(s) + 2, 2*len(s) + 1, 1 << 16, math.MaxInt32, math.MaxInt32 + 1, math.MaxUint32, math.MaxUint32 + 1, math.MaxInt - 1, math.MaxInt,
		} {
			wantError(t, s, at, at, api.ErrSyntax)
		}
	}
}

// P10.2: an opening quote at the last byte, and one that the caller takes for an opening one.
func TestLastQuote(t *testing.T) {
	for _, s := range []string{`"`, `a"`, `""`, `"a"`, `"\"`, `"\""`, "\xFF\"", "\n\"", strings.Repeat(`"`, 100)} {
		wantError(t, s, len(s)-1, len(s)-1, api.ErrEOF)
	}
}

// P10.2: each byte after a backslash. Only eight of them are letters; u must be followed by digits.
func TestEveryLetter(t *testing.T) {
	for b := range 256 {
		s := `\` + string([]byte{byte(b)})
		want, ok := meanings[byte(b)]
		if ok {
			wantMeaning(t, s, string(want))
			wantMeaning(t, "é"+s+"n", "é"+string(want)+"n")
			wantMeaning(t, s+s, string(want)+string(want))
			wantMeaning(t, `\u0041`+s+`\ud83d\ude00`, "A"+string(want)+"\U0001F600")
			wantError(t, `"`+s, 0, 0, api.ErrEOF)
			continue
		}
		wantFault(t, s, 0, api.ErrEscape)
		wantError(t, `"`+s, 0, 1, api.ErrEscape)
		if b != 'u' {
			wantFault(t, s+"0041", 0, api.ErrEscape)
			wantFault(t, `\ud83d`+s+"de00", 0, api.ErrEscape)
		}
	}
	for _, s := range []string{`\B`, `\F`, `\N`, `\R`, `\T`, `\U0041`, `\U00000041`, `\a`, `\v`, `\0`, `\x41`, `\e`, `\'`, `\ `, "\\\n", "\\\x00", `\é`, "\\\xFF", `\101`, `\u{41}`} {
		wantFault(t, s, 0, api.ErrEscape)
	}
	if len(meanings) != 8 {
		t.Errorf("%d letters", len(meanings))
	}
}

// cased returns the four digits of a number in lower case, in upper case and mixed.
func cased(n rune) []string {
	lower, upper := fmt.Sprintf("%04x", n), fmt.Sprintf("%04X", n)
	return []string{lower, upper, lower[:1] + upper[1:2] + lower[2:3] + upper[3:], upper[:1] + lower[1:2] + upper[2:3] + lower[3:]}
}

// P10.2: each number of four digits, in lower case, in upper case and mixed.
func TestEveryNumber(t *testing.T) {
	for n := rune(0); n <= 0xFFFF && !t.Failed(); n++ {
		for _, digits := range cased(n) {
			s := `\u` + digits
			if n >= 0xD800 && n <= 0xDFFF {
				wantFault(t, s, 0, api.ErrEscape)
				wantError(t, `"`+s, 0, 1, api.ErrEscape)
				continue
			}
			wantMeaning(t, s, string(n))
			wantMeaning(t, "0"+s+"0", "0"+string(n)+"0")
			wantError(t, `"`+s, 0, 0, api.ErrEOF)
			wantError(t, `"`+s+`\`, 0, 0, api.ErrEOF)
		}
	}
}

// P10.2: the numbers at the edges.
func TestNumberEdges(t *testing.T) {
	for s, want := range map[string]string{
		`\u0000`: "\x00", `\u001f`: "\x1F", `\u0020`: " ", `\u0022`: `"`, `\u005c`: `\`, `\u002f`: "/", `\u007f`: "\x7F", `\u0080`: "\xC2\x80", `\u07fF`: "\xDF\xBF", `\u0800`: "\xE0\xA0\x80",
		`\uD7FF`: "\xED\x9F\xBF", `\ud7ff`: "\xED\x9F\xBF", `\uE000`: "\xEE\x80\x80", `\ue000`: "\xEE\x80\x80", `\uFFFD`: "\xEF\xBF\xBD", `\ufffe`: "\xEF\xBF\xBE", `\uFfFf`: "\xEF\xBF\xBF",
		`\ud800\udc00`: "\xF0\x90\x80\x80", `\uD800\uDC00`: "\xF0\x90\x80\x80", `\ud800\udfff`: "\xF0\x90\x8F\xBF", `\ud801\udc00`: "\xF0\x90\x90\x80", `\uDbFf\uDc00`: "\xF4\x8F\xB0\x80", `\uDBFF\uDFFF`: "\xF4\x8F\xBF\xBF", `\udbff\udfff`: "\xF4\x8F\xBF\xBF",
	} {
		wantMeaning(t, s, want)
		wantMeaning(t, s+s, want+want)
		wantMeaning(t, `\ud83d\ude00`+s, "\U0001F600"+want)
		wantMeaning(t, s+`\ud83d\ude00`, want+"\U0001F600")
	}
	for _, s := range []string{`\ud800`, `\uD800`, `\udbff`, `\uDBFF`, `\udc00`, `\uDC00`, `\udfff`, `\uDFFF`, `\udead`, `\uDEAD`, `\ud83d`, `\ude00`} {
		wantFault(t, s, 0, api.ErrEscape)
	}
}

// P10.2: each pair of numbers that stand for a rune.
func TestEveryPair(t *testing.T) {
	want := rune(0x10000)
	for h := 0xD800; h <= 0xDBFF; h++ {
		for l := 0xDC00; l <= 0xDFFF && !t.Failed(); l++ {
			s := fmt.Sprintf(`"\u%04x\u%04X"`, h, l)
			wantParsed(t, s, 0, string(want), len(s))
			want++
		}
	}
	if want != 0x110000 {
		t.Errorf("%#x", want)
	}
}

// P10.2: a first sequence is followed by each number, and a second one follows each number.
func TestEveryFollower(t *testing.T) {
	for n := rune(0); n <= 0xFFFF && !t.Failed(); n++ {
		for _, digits := range cased(n) {
			for _, h := range []rune{0xD800, 0xD83D, 0xDBFF} {
				s := fmt.Sprintf(`\u%04x\u%s`, h, digits)
				if n < 0xDC00 || n > 0xDFFF {
					wantFault(t, s, 0, api.ErrEscape)
				} else {
					wantMeaning(t, s, string(0x10000+(h-0xD800)*0x400+(n-0xDC00)))
				}
			}
			for _, l := range []rune{0xDC00, 0xDE00, 0xDFFF} {
				s := fmt.Sprintf(`\u%s\u%04x`, digits, l)
				switch {
				case n < 0xD800 || n > 0xDFFF:
					wantFault(t, s, 6, api.ErrEscape)
				case n >= 0xDC00:
					wantFault(t, s, 0, api.ErrEscape)
				default:
					wantMeaning(t, s, string(0x10000+(n-0xD800)*0x400+(l-0xDC00)))
				}
			}
		}
	}
}

// P10.2: what follows a first sequence and is no second one, also where the string ends there. The error is at the first one.
func TestBrokenPairs(t *testing.T) {
	for _, first := range []string{`\ud800`, `\uD83D`, `\udBfF`} {
		for _, follower := range []string{
			"", "a", "u", "ude00", "uDE00", "de00", "0", "é", "\U0001F600", " ", "/", `\`, `\n`, `\\`, `\"`, `\/`, `\\ude00`, `\b`, `\u`, `\ud`, `\ude`, `\ude0`, `\ude0g`, `\ud83d`, `\ud83d\ude00`, `\u0041`, `\u0041\ude00`, `\uE000`, `\uD7FF`, `\udbff`,
			`\Ude00`, `\UDE00`, `\xde00`, `\x`, `\0`, `/ude00`, `a\ude00`, ` \ude00`, `\ ude00`, `\u de00`, `\u+e00`, `\u-e00`, `\u0xde`, `\u{de00}`, `\udé00`, "\n", "\x00", "\xFF", "\xED\xB8\x80", "\\u\xFF", "\\u\n", "\\\n", "\\\xFF",
		} {
			wantFault(t, first+follower, 0, api.ErrEscape)
			wantError(t, `"`+first+follower, 0, 1, api.ErrEscape)
			wantError(t, `"a\ud83d\ude00`+first+follower, 0, 14, api.ErrEscape)
		}
	}
	for _, second := range []string{`\udc00`, `\uDE00`, `\udFfF`} {
		for _, follower := range []string{"", "a", `\ud83d`, second, `\n`, `\`, "\n", "\xFF", `\u0041`, `\x`} {
			wantFault(t, second+follower, 0, api.ErrEscape)
			wantError(t, `"`+second+follower, 0, 1, api.ErrEscape)
			wantFault(t, `\ud83d\ude00`+second+follower, 12, api.ErrEscape)
		}
	}
}

// P10.2: each byte in place of each digit; a byte that is not a digit makes the sequence wrong.
func TestEveryDigit(t *testing.T) {
	for b := range 256 {
		c := string([]byte{byte(b)})
		isDigit := strings.Contains("0123456789abcdefABCDEF", c)
		for _, digits := range []string{"0041", "f7ff", "E6EE", "c1aB"} {
			for i := range 4 {
				s := `\u` + digits[:i] + c + digits[i+1:]
				if isDigit {
					wantMeaning(t, s, string(hex(s[2:])))
					continue
				}
				wantFault(t, s, 0, api.ErrEscape)
				wantError(t, `"`+s, 0, 1, api.ErrEscape)
			}
		}
		for i := range 4 {
			if !isDigit {
				wantFault(t, `\u`+"d83d"[:i]+c+"d83d"[i+1:]+`\ude00`, 0, api.ErrEscape)
				wantFault(t, `\ud83d\u`+"de00"[:i]+c+"de00"[i+1:], 0, api.ErrEscape)
			}
			compare(t, `"\ud83d\u`+"de00"[:i]+c+"de00"[i+1:]+`"`)
			compare(t, `"\u`+"d83d"[:i]+c+"d83d"[i+1:]+`\ude00"`)
		}
	}
}

// P10.2: sequences with fewer than four digits, and digits that other notations would accept.
func TestFewDigits(t *testing.T) {
	for _, digits := range []string{
		"", "0", "00", "004", "d", "d8", "d83", "g", "g041", "0g41", "00g1", "004g", "G041", "-041", "+041", "0-41", "+0x4", "0x41", "0X41", "x041", "0_41", "_041", "004_", "00 1", " 041", "004 ", "00.1", "1e+1", "00\t1", "00\n1", "\n041", "00\x001", "004\x00", "004\x7F", "00é", "é41", "0é1", "００４１", "٠٠٤١", "00\xFF1", "\xFF041", "004\xFF", "{41}", `\u0041`, `0\u0041`, `00\u0041`, `004\u0041`, `\`, `0\`, `004\`, `\"`, "`041", "@041", "/041", ":041", "00:1", "00@1", "00`1", "00[1", "00/1",
	} {
		wantFault(t, `\u`+digits, 0, api.ErrEscape)
		wantError(t, `"\u`+digits, 0, 1, api.ErrEscape)
		wantFault(t, `\ud83d\u`+digits, 0, api.ErrEscape)
		wantFault(t, `\u0041\u`+digits, 6, api.ErrEscape)
		compare(t, `"\u`+digits)
		compare(t, `"\u`+digits+`"`)
	}
}

// P10.2: bytes less than 32.
func TestControls(t *testing.T) {
	for b := range 32 {
		c := string([]byte{byte(b)})
		for _, before := range []string{"", "a", " ", "é", "\U0001F600", `\n`, `\\`, `\u0041`, `\ud83d\ude00`, "\x7F", "u", "/"} {
			wantFault(t, before+c, len(before), api.ErrChar)
			wantError(t, `"`+before+c, 0, 1+len(before), api.ErrChar)
			wantError(t, `"`+before+c+`\`, 0, 1+len(before), api.ErrChar)
		}
	}
	for _, s := range []string{" ", "!", "\x7F", "\u0080", "\u009F", "\u2028", "\u2029", "\uFEFF"} {
		wantMeaning(t, s, s)
	}
}

// P10.2: bytes at which no encoding starts, at the beginning, in the middle and just ahead of the end.
func TestParseInvalid(t *testing.T) {
	for _, s := range notUTF8 {
		for _, before := range []string{"", "a", " ", "é", "\U0001F600", `\n`, `\\`, `\u0041`, `\ud83d\ude00`, "\x7F", "u"} {
			wantFault(t, before+s, len(before), api.ErrUTF8)
			wantError(t, `"`+before+s, 0, 1+len(before), api.ErrUTF8)
			wantError(t, `"`+before+s+`\`, 0, 1+len(before), api.ErrUTF8)
		}
	}
	for b := 0x80; b <= 0xFF; b++ {
		wantFault(t, string([]byte{byte(b)}), 0, api.ErrUTF8)
		wantFault(t, string([]byte{'a', byte(b), 'b'}), 1, api.ErrUTF8)
	}
	// The error is at the first byte of what is no encoding, even if one starts later in it.
	wantFault(t, "\xE2é", 0, api.ErrUTF8)
	wantFault(t, "\xF0\x9Fé", 0, api.ErrUTF8)
	wantFault(t, "é\xA9", 2, api.ErrUTF8)
	wantFault(t, "\uFFFD\xFF", 3, api.ErrUTF8)
}

// P10.2: strings that end before the closing quote, at each of their bytes, with and without bytes before.
func TestEveryEnd(t *testing.T) {
	for _, s := range []string{`"a"`, `"abc def"`, `"a\nb\"c\\d\/e\b\f\r\t"`, `"\\\\\\"`, `"'n/u"`} {
		for i := 1; i < len(s); i++ {
			wantError(t, s[:i], 0, 0, api.ErrEOF)
			wantError(t, "x"+s[:i], 1, 1, api.ErrEOF)
			wantError(t, "\"\\\x00\xFF"+s[:i], 4, 4, api.ErrEOF)
		}
	}
	for _, c := range []struct {
		s     string
		where int
		e     api.Errno
	}{
		{`"`, 0, api.ErrEOF}, {`"\`, 0, api.ErrEOF}, {`"\u`, 1, api.ErrEscape}, {`"\u0`, 1, api.ErrEscape}, {`"\u00`, 1, api.ErrEscape}, {`"\u004`, 1, api.ErrEscape}, {`"\u0041`, 0, api.ErrEOF}, {`"\u0041\`, 0, api.ErrEOF}, {`"\u0041\u`, 7, api.ErrEscape},
		{`"\ud83d`, 1, api.ErrEscape}, {`"\ud83d\`, 1, api.ErrEscape}, {`"\ud83d\u`, 1, api.ErrEscape}, {`"\ud83d\ud`, 1, api.ErrEscape}, {`"\ud83d\ude`, 1, api.ErrEscape}, {`"\ud83d\ude0`, 1, api.ErrEscape}, {`"\ud83d\ude00`, 0, api.ErrEOF}, {`"\ud83d\ude00\`, 0, api.ErrEOF},
		{"\"\xC3", 1, api.ErrUTF8}, {"\"é", 0, api.ErrEOF}, {"\"é\\", 0, api.ErrEOF}, {"\"é\xE2", 3, api.ErrUTF8}, {"\"é\xE2\x82", 3, api.ErrUTF8}, {"\"é€", 0, api.ErrEOF}, {"\"\xF0\x9F\x98", 1, api.ErrUTF8}, {`"\"`, 0, api.ErrEOF}, {`"\\`, 0, api.ErrEOF}, {`"\\\`, 0, api.ErrEOF}, {`"\\\"`, 0, api.ErrEOF}, {`"a\\\\`, 0, api.ErrEOF},
	} {
		wantError(t, c.s, 0, c.where, c.e)
		wantError(t, `"`+c.s, 1, 1+c.where, c.e)
	}
	for _, s := range samples {
		for i := range len(s) {
			compare(t, s[:i])
			compare(t, s+s[:i])
		}
	}
}

// P10.2: of two faults, the first from left to right counts.
func TestFirstFault(t *testing.T) {
	faults := map[string]api.Errno{
		"\x00": api.ErrChar, "\n": api.ErrChar, "\x1F": api.ErrChar, "\xFF": api.ErrUTF8, "\xC3": api.ErrUTF8, "\xED\xA0\x80": api.ErrUTF8, "\x80": api.ErrUTF8,
		`\x`: api.ErrEscape, `\U0041`: api.ErrEscape, `\u`: api.ErrEscape, `\u12`: api.ErrEscape, `\u00g0`: api.ErrEscape, `\ud83d`: api.ErrEscape, `\ude00`: api.ErrEscape, "\\\n": api.ErrEscape, "\\\xFF": api.ErrEscape, "\\u00\xFF": api.ErrEscape, `\ud83d\n`: api.ErrEscape, `\ud83d\ud83d`: api.ErrEscape,
	}
	for first, e := range faults {
		for second := range faults {
			for _, before := range []string{"", "a", "é", `\n`, `\u00e9`, `\ud83d\ude00`} {
				wantFault(t, before+first+"z"+second, len(before), e)
				wantFault(t, before+first+"zé"+second+"z"+first, len(before), e)
				wantError(t, `"`+before+first+"z"+second, 0, 1+len(before), e)
			}
			compare(t, `"`+first+second+`"`)
			compare(t, `"`+first+second)
		}
		// An end that is missing is no fault as long as there is another one, and none at all behind the closing quote.
		wantError(t, `"`+first+`z\`, 0, 1, e)
		wantParsed(t, `"a"`+first, 0, "a", 3)
	}
}

// P10.1 to P10.3: all short strings of awkward parts.
func TestEveryShortString(t *testing.T) {
	every(awkward, 4, func(s string) {
		compare(t, s)
		compare(t, `"`+s)
		compare(t, `"`+s+`"`)
		compare(t, `"\ud83d`+s+`"`)
		if quoted, e := quote(s); e == api.OK {
			wantInverse(t, s)
			compare(t, quoted)
			wantInverse(t, quoted)
		}
	})
}

// P10.2: all short sequences of items.
func TestEveryShortDocument(t *testing.T) {
	every([]string{"a", "é", `\n`, `\"`, `\u00e9`, `\uD83D`, `\uDE00`, `\`, `"`, "\n", "\xE9"}, 5, func(s string) {
		want, next, e := parse(`"`+s+`"`, 0)
		if got, gotNext, gotE := jsonstring.Parse(`"`+s+`"`, 0); got != want || gotNext != next || gotE != e {
			t.Errorf("Parse(%q, 0) = %q, %d, %v; want %q, %d, %v", `"`+s+`"`, got, gotNext, gotE, want, next, e)
		}
	})
}

// P10.2: any byte in place of any other one, or before it, and each part left out or doubled.
func TestEveryChange(t *testing.T) {
	for _, s := range samples {
		for i := range len(s) + 1 {
			for b := range 256 {
				compare(t, s[:i]+string([]byte{byte(b)})+s[i:])
				if i < len(s) {
					compare(t, s[:i]+string([]byte{byte(b)})+s[i+1:])
				}
			}
			for j := i + 1; j <= len(s); j++ {
				compare(t, s[:i]+s[j:])
				compare(t, s[:j]+s[i:])
			}
		}
	}
}

// P10.3: different strings have different canonical JSON strings, none of which is the beginning of another one.
func TestDistinct(t *testing.T) {
	strs := map[string]string{}
	every([]string{"a", `"`, `\`, "/", "n", "u", "0", "\n", "\x00", "\x01", "\x0A", "é", "\U0001F600", "0041"}, 4, func(s string) {
		quoted, e := jsonstring.Quote(s)
		if e != api.OK {
			t.Errorf("Quote(%q): %v", s, e)
		}
		if other, found := strs[quoted]; found && other != s {
			t.Errorf("%q and %q have the string %q", s, other, quoted)
		}
		strs[quoted] = s
	})
	var all []string
	for quoted := range strs {
		all = append(all, quoted)
	}
	slices.Sort(all)
	for i, quoted := range all[1:] {
		if strings.HasPrefix(quoted, all[i]) {
			t.Errorf("%q is the beginning of %q", all[i], quoted)
		}
	}
}

// P10.3: strings that are canonical already, or look like JSON strings.
func TestInverse(t *testing.T) {
	for _, s := range append(slices.Clone(samples), "", `"`, `\`, `\"`, `"\`, `\u0041`, `\ud83d`, "\x00\"", "\\\n", "\u2028/\x7F") {
		for range 4 {
			wantInverse(t, s)
			quoted, _ := jsonstring.Quote(s)
			s = quoted + s
		}
	}
}

// P10.1, P10.2: package json reads the same strings, and reads canonical ones back.
func TestPackageJSON(t *testing.T) {
	check := func(s string) {
		var want string
		got, next, e := jsonstring.Parse(s, 0)
		if e != api.OK || next != len(s) {
			return
		}
		if err := json.Unmarshal([]byte(s), &want); err != nil || got != want {
			t.Errorf("Parse(%q, 0) = %q; want %q, %v", s, got, want, err)
		}
	}
	every([]string{"a", "é", `\n`, `\/`, `\u00e9`, `\uD83D\ude00`, "\x7F", "\u2028", `\\`, `\"`, "u0041"}, 3, func(s string) {
		check(`"` + s + `"`)
		quoted, _ := jsonstring.Quote(s)
		check(quoted)
	})
	for n := range 0x10000 {
		check(fmt.Sprintf(`"\u%04x"`, n))
	}
}

// P1: long strings, with nothing but escape sequences and with none, and very many quotes.
func TestLongStrings(t *testing.T) {
	const count = 1 << 20
	for _, c := range []struct{ item, meaning string }{{"a", "a"}, {`\n`, "\n"}, {`\"`, `"`}, {`\u0000`, "\x00"}, {"é", "é"}, {"\U0001F600", "\U0001F600"}} {
		items, s := strings.Repeat(c.item, count), strings.Repeat(c.meaning, count)
		wantQuoted(t, s, `"`+items+`"`)
		wantMeaning(t, items, s)
		wantNotQuoted(t, s+"\xFF")
		wantError(t, `"`+items, 0, 0, api.ErrEOF)
		wantError(t, `"`+items+`\`, 0, 0, api.ErrEOF)
		wantError(t, `"`+items+"\n\"", 0, 1+len(items), api.ErrChar)
	}
	wantMeaning(t, strings.Repeat(`\ud83d\ude00`, count), strings.Repeat("\U0001F600", count))
	wantFault(t, strings.Repeat(`\ud83d`, count), 0, api.ErrEscape)
	wantParsed(t, strings.Repeat(`"`, count), count/2, "", count/2+2)
}

// P1, P2: calls at the same time do not influence each other.
func TestConcurrentCalls(t *testing.T) {
	type answer struct {
		quoted, s string
		next      int
		e, f      api.Errno
	}
	ask := func(s string) answer {
		var a answer
		a.quoted, a.e = jsonstring.Quote(s)
		a.s, a.next, a.f = jsonstring.Parse(s, 0)
		return a
	}
	want := map[string]answer{}
	every(awkward, 3, func(s string) { want[`"`+s] = ask(`"` + s) })
	for _, s := range samples {
		want[s] = ask(s)
	}
	var wg sync.WaitGroup
	for range 4 {
		wg.Go(func() {
			for s, a := range want {
				if got := ask(s); got != a {
					t.Errorf("%q: %v, then %v", s, a, got)
				}
			}
		})
	}
	wg.Wait()
}

// FuzzStrings checks the promises on arbitrary strings and offsets.
func FuzzStrings(f *testing.F) {
	for i, s := range samples {
		f.Add(s, i)
	}
	for i, s := range awkward {
		f.Add(`"`+s+s+`"`, -i)
	}
	f.Fuzz(func(t *testing.T, s string, at int) {
		compare(t, s)
		compare(t, `"`+s)
		want, next, e := parse(s, at)
		if got, gotNext, gotE := jsonstring.Parse(s, at); got != want || gotNext != next || gotE != e {
			t.Errorf("Parse(%q, %d) = %q, %d, %v; want %q, %d, %v", s, at, got, gotNext, gotE, want, next, e)
		}
		if _, e := quote(s); e == api.OK {
			wantInverse(t, s)
		}
	})
}

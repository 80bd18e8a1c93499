package jsonvalue_test

import (
	"encoding/json"
	"math"
	"math/big"
	"slices"
	"strconv"
	"strings"
	"sync"
	"testing"

	"feedvault/api"
	"feedvault/jsonstring"
	"feedvault/jsonvalue"
)

const mark = "\xEF\xBB\xBF"

// null, boolean, integer, str, array, object and member are values and a member of a parsed text.
func null(at int) api.Value { return api.Value{At: at} }

func boolean(at int, b bool) api.Value { return api.Value{Kind: api.Bool, B: b, At: at} }

func integer(at int, n int64) api.Value { return api.Value{Kind: api.Int, N: n, At: at} }

func str(at int, s string) api.Value { return api.Value{Kind: api.String, S: s, At: at} }

func array(at int, items ...api.Value) api.Value {
	return api.Value{Kind: api.Array, Items: items, At: at}
}

func object(at int, members ...api.Member) api.Value {
	return api.Value{Kind: api.Object, Members: members, At: at}
}

func member(at int, key string, v api.Value) api.Member {
	return api.Member{Key: key, Value: v, At: at}
}

func wantValue(t *testing.T, s string, want api.Value) {
	t.Helper()
	got, at, e := jsonvalue.Parse(s)
	if show(got, true) != show(want, true) || at != len(s) || e != api.OK {
		t.Errorf("Parse(%.300q) = %.2000s, %d, %v; want %.2000s, %d", s, show(got, true), at, e, show(want, true), len(s))
	}
}

func wantError(t *testing.T, s string, at int, want api.Errno) {
	t.Helper()
	got, gotAt, e := jsonvalue.Parse(s)
	if show(got, true) != show(api.Value{}, true) || gotAt != at || e != want {
		t.Errorf("Parse(%.300q) = %.2000s, %d, %v; want %d, %v", s, show(got, true), gotAt, e, at, want)
	}
}

// compare compares Parse with its definition, and checks what follows from the promises. It returns the error of Parse.
func compare(t *testing.T, s string) api.Errno {
	t.Helper()
	want, at, e := parse(s)
	if e != api.OK {
		wantError(t, s, at, e)
	} else {
		wantValue(t, s, want)
		compareValue(t, want)
		wantProper(t, want, 1)
	}
	if at < 0 || at > len(s) {
		t.Errorf("Parse(%q): the offset is %d", s, at)
	}
	return e
}

// compareValue compares the functions for values with their definitions.
func compareValue(t *testing.T, v api.Value) {
	t.Helper()
	before := show(v, true)
	if got, want := jsonvalue.Depth(v), depthOf(v); got != want {
		t.Errorf("Depth(%.500s) = %d; want %d", before, got, want)
	}
	stripped := jsonvalue.Strip(v)
	if show(stripped, false) != show(v, false) || !allZero(stripped) {
		t.Errorf("Strip(%.500s) = %.500s", before, show(stripped, true))
	}
	if !jsonvalue.Equal(v, stripped) || !jsonvalue.Equal(stripped, v) || !jsonvalue.Equal(v, v) {
		t.Errorf("%.500s does not equal itself without offsets", before)
	}
	for _, m := range v.Members {
		wantGot(t, v, m.Key)
	}
	wantGot(t, v, "")
	wantGot(t, v, "no such key")
	if show(v, true) != before {
		t.Errorf("%.500s became %.500s", before, show(v, true))
	}
}

// wantGot compares Get with its definition.
func wantGot(t *testing.T, v api.Value, key string) {
	t.Helper()
	var want api.Value
	i := slices.IndexFunc(v.Members, func(m api.Member) bool { return m.Key == key })
	found := i >= 0 && v.Kind == 5
	if found {
		want = v.Members[i].Value
	}
	if got, ok := jsonvalue.Get(v, key); ok != found || show(got, true) != show(want, true) {
		t.Errorf("Get(%.500s, %.200q) = %.500s, %v; want %.500s, %v", show(v, true), key, show(got, true), ok, show(want, true), found)
	}
}

// allZero reports whether all offsets of a value are 0.
func allZero(v api.Value) bool {
	return v.At == 0 &&
		!slices.ContainsFunc(v.Items, func(x api.Value) bool { return !allZero(x) }) &&
		!slices.ContainsFunc(v.Members, func(m api.Member) bool { return m.At != 0 || !allZero(m.Value) })
}

// wantProper checks P11.4 for a value of a text, which has a depth: that of arrays and objects is bounded, and keys are distinct. Offsets ascend, and unused fields are zero.
func wantProper(t *testing.T, v api.Value, depth int) {
	t.Helper()
	fields := api.Value{Kind: v.Kind, At: v.At}
	keys := map[string]bool{}
	last := v.At
	inside := func(at int, x api.Value) {
		if at <= last || x.At < at {
			t.Errorf("an offset behind %d in %.500s is %d", last, show(v, true), at)
		}
		last = x.At
		wantProper(t, x, depth+1)
	}
	switch v.Kind {
	case api.Null:
	case api.Bool:
		fields.B = v.B
	case api.Int:
		fields.N = v.N
	case api.String:
		fields.S = v.S
	case api.Array:
		fields.Items = v.Items
		for _, x := range v.Items {
			inside(x.At, x)
		}
	case api.Object:
		fields.Members = v.Members
		for _, m := range v.Members {
			inside(m.At, m.Value)
			keys[m.Key] = true
		}
	default:
		t.Errorf("the kind is %d", v.Kind)
	}
	if show(v, true) != show(fields, true) {
		t.Errorf("a field is not used: %.500s", show(v, true))
	}
	if len(keys) < len(v.Members) {
		t.Errorf("keys are equal: %.500s", show(v, true))
	}
	if v.Kind >= api.Array && depth > 100 {
		t.Errorf("the depth of %.500s is %d", show(v, true), depth)
	}
}

// moved returns a value with offsets that are greater, as behind other bytes.
func moved(v api.Value, by int) api.Value {
	m := api.Value{Kind: v.Kind, B: v.B, N: v.N, S: v.S, At: v.At + by}
	for _, x := range v.Items {
		m.Items = append(m.Items, moved(x, by))
	}
	for _, x := range v.Members {
		m.Members = append(m.Members, member(x.At+by, x.Key, moved(x.Value, by)))
	}
	return m
}

// wantEverywhere checks the text of a value, alone and within arrays and objects.
func wantEverywhere(t *testing.T, s string, want api.Value) {
	t.Helper()
	wantValue(t, s, want)
	wantValue(t, " \n"+s+"\t\r", moved(want, 2))
	wantValue(t, mark+s, moved(want, 3))
	wantValue(t, "["+s+"]", array(0, moved(want, 1)))
	wantValue(t, "[ "+s+" ]", array(0, moved(want, 2)))
	wantValue(t, "[1,"+s+"]", array(0, integer(1, 1), moved(want, 3)))
	wantValue(t, "["+s+",[]]", array(0, moved(want, 1), array(2+len(s))))
	wantValue(t, "["+s+","+s+"]", array(0, moved(want, 1), moved(want, 2+len(s))))
	wantValue(t, `{"a":`+s+`}`, object(0, member(1, "a", moved(want, 5))))
	wantValue(t, `{"a":`+s+`,"":`+s+`}`, object(0, member(1, "a", moved(want, 5)), member(6+len(s), "", moved(want, 9+len(s)))))
	wantValue(t, `[{"b": [`+s+`]}]`, array(0, object(1, member(2, "b", array(7, moved(want, 8))))))
	compare(t, s)
}

// wantFault checks the fault of what is in place of a value, alone and within arrays and objects, whatever follows.
func wantFault(t *testing.T, s string, at int, e api.Errno) {
	t.Helper()
	for _, before := range []string{"", " ", mark, "[", "[\n", "[1,", `["a" , `, `{"a":`, `{"a": 1, "b" : `, `[{"b":[[],{},`, strings.Repeat("[", 100), strings.Repeat(`{"":`, 100)} {
		wantError(t, before+s, len(before)+at, e)
		for _, behind := range []string{"]", "}", ",", " ,01]", "]\x00", ":", "[", `"`, " \xFF", ` {"a":1,"a":2}`, "\n" + strings.Repeat("[", 200)} {
			wantError(t, before+s+behind, len(before)+at, e)
		}
	}
}

// P11.1: the words, empty values, and numbers and strings of one byte.
func TestValues(t *testing.T) {
	for s, want := range map[string]api.Value{
		"null":     null(0),
		"true":     boolean(0, true),
		"false":    boolean(0, false),
		"0":        integer(0, 0),
		"-0":       integer(0, 0),
		"1":        integer(0, 1),
		"-1":       integer(0, -1),
		"9":        integer(0, 9),
		"-9":       integer(0, -9),
		`""`:       str(0, ""),
		`" "`:      str(0, " "),
		`"a"`:      str(0, "a"),
		`"null"`:   str(0, "null"),
		`"1"`:      str(0, "1"),
		`"[]"`:     str(0, "[]"),
		`"\""`:     str(0, `"`),
		`"],"`:     str(0, "],"),
		"[]":       array(0),
		"{}":       object(0),
		"[ ]":      array(0),
		"{\n}":     object(0),
		"[[]]":     array(0, array(1)),
		"[{}]":     array(0, object(1)),
		`{"":{}}`:  object(0, member(1, "", object(4))),
		`{"":[]}`:  object(0, member(1, "", array(4))),
		`{"a":""}`: object(0, member(1, "a", str(5, ""))),
		"[0]":      array(0, integer(1, 0)),
		`[""]`:     array(0, str(1, "")),
	} {
		wantEverywhere(t, s, want)
	}
}

// P11.1: arrays and objects with several elements, within each other; the offsets of all of them.
func TestLists(t *testing.T) {
	for s, want := range map[string]api.Value{
		`{"a": [1, -20]}`:            object(0, member(1, "a", array(6, integer(7, 1), integer(10, -20)))),
		"[1,2,3]":                    array(0, integer(1, 1), integer(3, 2), integer(5, 3)),
		"[null,true,false,null]":     array(0, null(1), boolean(6, true), boolean(11, false), null(17)),
		`["a","a",""]`:               array(0, str(1, "a"), str(5, "a"), str(9, "")),
		"[[],[],[[],[]]]":            array(0, array(1), array(4), array(7, array(8), array(11))),
		"[[[[]]],[[]]]":              array(0, array(1, array(2, array(3))), array(8, array(9))),
		"[{},[{}],{}]":               array(0, object(1), array(4, object(5)), object(9)),
		`{"a":1,"b":2,"c":3}`:        object(0, member(1, "a", integer(5, 1)), member(7, "b", integer(11, 2)), member(13, "c", integer(17, 3))),
		`{"b":1,"a":1}`:              object(0, member(1, "b", integer(5, 1)), member(7, "a", integer(11, 1))),
		`{"a":{"a":{"a":null}}}`:     object(0, member(1, "a", object(5, member(6, "a", object(10, member(11, "a", null(15))))))),
		`{"a":{},"b":[{}],"c":[[]]}`: object(0, member(1, "a", object(5)), member(8, "b", array(12, object(13))), member(17, "c", array(21, array(22)))),
		`[{"a":[]},{"a":{}}]`:        array(0, object(1, member(2, "a", array(6))), object(10, member(11, "a", object(15)))),
		`{"é":"\u00e9","\n":"é"}`:    object(0, member(1, "é", str(6, "é")), member(15, "\n", str(20, "é"))),
		`[1 , [ 2 ] , { "a" : 3 } ]`: array(0, integer(1, 1), array(5, integer(7, 2)), object(13, member(15, "a", integer(21, 3)))),
		`{"[":"]","{":"}",",":":"}`:  object(0, member(1, "[", str(5, "]")), member(9, "{", str(13, "}")), member(17, ",", str(21, ":"))),
	} {
		wantEverywhere(t, s, want)
	}
}

// around are parts of texts before and behind a value, for which the value is neither too deep nor a key.
var around = [][2]string{{"", ""}, {"[", "]"}, {"[1,", "]"}, {"[", ",1]"}, {`{"a":`, `}`}, {`{"a":1,"b": `, ` }`}, {`[{"a":[`, `]}]`}}

// P11.1: numbers of all lengths, in decimal without anything else.
func TestNumbers(t *testing.T) {
	for _, n := range []int64{
		0, 1, 2, 9, 10, 11, 12, 19, 20, 90, 99, 100, 101, 109, 110, 1000, 1234567890, 9876543210, 1 << 31, 1<<31 - 1, 1 << 32, 1 << 53, 1<<53 + 1, 1 << 62, 999999999999999999, 1000000000000000000, math.MaxInt64 - 8, math.MaxInt64 - 1, math.MaxInt64, math.MinInt64 + 1, math.MinInt64 + 9, math.MinInt64,
	} {
		s := strconv.FormatInt(n, 10)
		wantEverywhere(t, s, integer(0, n))
		if n > math.MinInt64 {
			wantEverywhere(t, strconv.FormatInt(-n, 10), integer(0, -n))
		}
	}
	n := "1"
	for i := range 18 {
		n += strconv.Itoa(i % 10)
		want, _ := strconv.ParseInt(n, 10, 64)
		wantEverywhere(t, n, integer(0, want))
		wantEverywhere(t, "-"+n, integer(0, -want))
	}
}

// P11.1: numbers next to the bounds, and next to where 64 bits or fewer would wrap around.
func TestBounds(t *testing.T) {
	for _, center := range []string{"0", "100000000", "80000000", "7FFFFFFFFFFFFFFF", "8000000000000000", "10000000000000000", "18000000000000000", "20000000000000000", "80000000000000000000000000000000"} {
		for d := int64(-30); d <= 30; d++ {
			n, _ := new(big.Int).SetString(center, 16)
			n.Add(n, big.NewInt(d))
			for range 2 {
				if n.IsInt64() {
					wantEverywhere(t, n.String(), integer(0, n.Int64()))
				} else {
					wantFault(t, n.String(), 0, api.ErrNumber)
				}
				n.Neg(n)
			}
		}
	}
}

// P11.1: what is almost a number, up to the first byte that no number-like sequence has.
func TestWrongNumbers(t *testing.T) {
	for _, s := range []string{
		"00", "01", "09", "007", "-00", "-01", "-007", "00000000000000000001", "09223372036854775807", "-09223372036854775808", "0-", "-0-", "00-",
		"1.0", "0.0", "-0.0", "1.5", "-1.5", "1.", "0.", "-1.", "1..", "1.5.5", "0.5", "10.25", "1.e5", "-.5", "-.",
		"1e5", "1E5", "1e+5", "1E-5", "-1e5", "0e0", "0E0", "1e", "1E", "1e+", "1e-", "1.5e3", "1e5.5", "1ee", "1e5e5", "-e", "-E1", "-e5",
		"-", "--", "--1", "---1", "-+", "-+1", "1-", "1+", "1-1", "1+1", "1--1", "12-34", "1-2-3", "-1-", "-1+", "0-0", "0+0", "0+", "5+e", "-1-1",
		"9223372036854775808", "-9223372036854775809", "9999999999999999999", "-9999999999999999999", "10000000000000000000", "18446744073709551615", "18446744073709551616", "-18446744073709551616", "99999999999999999999", "1" + strings.Repeat("0", 1000), "-" + strings.Repeat("9", 1000), strings.Repeat("0", 1000), "9223372036854775807.0", "9223372036854775807e0", "9223372036854775807-",
	} {
		wantFault(t, s, 0, api.ErrNumber)
		for _, c := range around {
			compare(t, c[0]+s+c[1])
		}
	}
	for _, s := range []string{"+", "+1", "+0", "+-1", "++1", ".5", ".", ".0", "e5", "E5", "e", "\u0660", "\uFF11", "\u00B2", "\u2212" + "1", "_1", "x1", "I", "i"} {
		wantFault(t, s, 0, api.ErrSyntax)
	}
	// Letters that no number has end the sequence, so that a number precedes them.
	for _, s := range []string{"1x", "1_000", "0x10", "0b1", "0o7", "1a", "1f", "1L", "1n", "-1x", "0\xFF", "1\u0660", "1\x00", "1\"", "1[", "1{"} {
		n := strings.IndexFunc(s, func(r rune) bool { return r != '-' && (r < '0' || r > '9') })
		wantBehind(t, s, n)
	}
}

// wantBehind checks a text in which a value is followed by a byte that is wrong there.
func wantBehind(t *testing.T, s string, n int) {
	t.Helper()
	for _, space := range []string{"", " ", "\n\t", mark} {
		wantError(t, space+s, len(space)+n, api.ErrTrailing)
		wantError(t, space+s+"]", len(space)+n, api.ErrTrailing)
	}
	for _, before := range []string{"[", "[ ", "[1,", `{"a":`, `{"a":1,"b":`, "[[[", mark + "[{}, "} {
		for _, behind := range []string{"", "]", "}", ",", " 01", "]]"} {
			wantError(t, before+s+behind, len(before)+n, api.ErrSyntax)
		}
	}
}

// P11.1: all short sequences of the bytes of numbers.
func TestEveryShortNumber(t *testing.T) {
	every("", strings.Split("019+-.eE", ""), 5, func(s string) bool {
		compare(t, s)
		compare(t, "["+s+"]")
		return true
	})
	every("", strings.Split("0158-. x,]", ""), 4, func(s string) bool {
		compare(t, s)
		compare(t, "["+s+"]")
		compare(t, `{"a":`+s+`}`)
		compare(t, "922337203685477580"+s)
		compare(t, "[-922337203685477580"+s+"]")
		return true
	})
}

// P11.1: words that begin as null, true and false do, and those words with something behind them.
func TestWords(t *testing.T) {
	for _, s := range []string{
		"n", "nu", "nul", "nulL", "nil", "none", "nan", "nuLl", "nnull", "n ull", "nul l", "nu\nll", "nul\x00", "nul\"", "null"[:3] + "I", "nulé",
		"t", "tr", "tru", "truE", "tRue", "try", "ttrue", "t rue", "tru e", "tru3", "tru\xFF",
		"f", "fa", "fal", "fals", "falsE", "fAlse", "ffalse", "f alse", "fals e", "fal5e", "falls",
		"Null", "NULL", "N", "True", "TRUE", "T", "False", "FALSE", "F", "NaN", "undefined", "Infinity", "ull", "rue", "alse", "yes", "\\null", "\u00F1ull",
	} {
		wantFault(t, s, 0, api.ErrSyntax)
	}
	for _, w := range []string{"null", "true", "false"} {
		for _, s := range []string{"x", "l", "e", "0", "1", "-", "N", "null", "true", "false", "n", "t", "f", `""`, "[", "{", ":", "\x00", "\xFF", "é", " x", "\nnull", " 1", ` "a"`, "\t{", " :"} {
			wantBehind(t, w+s, len(w)+len(s)-len(strings.TrimLeft(s, "\t\n\r ")))
		}
	}
}

// notStrings are strings that layer 10 rejects, whatever follows.
var notStrings = []struct {
	s  string
	at int
	e  api.Errno
}{
	{`"\x"`, 1, api.ErrEscape}, {`"\u12"`, 1, api.ErrEscape}, {`"ab\ud83d"`, 3, api.ErrEscape}, {`"\ude00"`, 1, api.ErrEscape}, {`"\n\'"`, 3, api.ErrEscape}, {`"\ud83d\n"`, 1, api.ErrEscape}, {`"\U0041"`, 1, api.ErrEscape}, {"\"\\\n\"", 1, api.ErrEscape},
	{"\"\n\"", 1, api.ErrChar}, {"\"a\x00\"", 2, api.ErrChar}, {"\"\t", 1, api.ErrChar}, {"\"é\x1F\"", 3, api.ErrChar}, {"\"\r\n\"", 1, api.ErrChar},
	{"\"\xFF\"", 1, api.ErrUTF8}, {"\"a\xC3\"", 2, api.ErrUTF8}, {"\"\xED\xA0\x80\"", 1, api.ErrUTF8}, {"\"\xC0\x80\"", 1, api.ErrUTF8}, {"\"\xF4\x90\x80\x80\"", 1, api.ErrUTF8},
	{"\"\n\\x\xFF\"", 1, api.ErrChar}, {"\"\\x\n\"", 1, api.ErrEscape}, {"\"\xFF\n\"", 1, api.ErrUTF8},
}

// beforeKeys are beginnings of texts that are followed by a key.
var beforeKeys = []string{"{", "{ ", mark + "{\n", "[{", `{"a":1,`, `{"a":{"b":2}, `, `{"a":{`, `[{},{"":[],"b":null,`, strings.Repeat("[", 99) + "{", strings.Repeat(`{"":`, 99) + "{"}

// P11.1: strings and keys that layer 10 rejects.
func TestStrings(t *testing.T) {
	for _, c := range notStrings {
		wantFault(t, c.s, c.at, c.e)
		for _, before := range beforeKeys {
			for _, behind := range []string{"", ":", ":1}", ",", "}", `:1,"a":2}`, ` "a"`, "\xFF"} {
				wantError(t, before+c.s+behind, len(before)+c.at, c.e)
			}
		}
	}
	for _, s := range []string{`"`, `"a`, `"\`, `"\"`, `"\n\\`, `"\\\"`, `"]`, `" : 1}`, `"[{`, `"é`, `"` + strings.Repeat("a", 1000)} {
		for _, before := range append(slices.Clone(beforeKeys), "", " ", mark, "[", "[1, ", `{"a":`, `{"a": `) {
			wantError(t, before+s, len(before), api.ErrEOF)
		}
	}
	for _, s := range []string{`""`, `"a"`, `"\""`, `"\\"`, `"\\\""`, `"\u0022"`, `"\ud83d\ude00"`, `"/\/"`, `"é€😀"`, "\"\x7F\uFEFF\uFFFF\"", `"[1,{"`, `"\u0000\b\f\n\r\t"`, `" a "`} {
		want, next, e := jsonstring.Parse(s, 0)
		if e != api.OK || next != len(s) {
			t.Fatal(s, next, e)
		}
		wantEverywhere(t, s, str(0, want))
		for _, before := range []string{"", " "} {
			wantEverywhere(t, "{"+before+s+":"+s+"}", object(0, member(1+len(before), want, str(2+len(before)+len(s), want))))
		}
	}
	// Only double quotes begin a string.
	for _, s := range []string{"'a'", "`a`", `\"a\"`, "a", "\u201Ca\u201D", "\u00ABa"} {
		wantFault(t, s, 0, api.ErrSyntax)
		for _, before := range beforeKeys {
			wantError(t, before+s+":1}", len(before), api.ErrSyntax)
		}
	}
}

// tokenLists are the tokens of texts.
var tokenLists = [][]string{
	{"null"}, {"true"}, {"-12"}, {"0"}, {`"a b"`}, {"[", "]"}, {"{", "}"},
	{"[", "1", ",", "-20", ",", "null", "]"},
	{"[", "[", "]", ",", "{", "}", "]"},
	{"{", `"a"`, ":", "1", "}"},
	{"{", `"a"`, ":", "true", ",", `""`, ":", "[", "]", "}"},
	{"[", "{", `"\n "`, ":", `" \t"`, "}", ",", "false", "]"},
	{"{", `"a"`, ":", "{", `"a"`, ":", "-0", "}", "}"},
	{"{", `"\u00e9"`, ":", "[", "0", ",", `"\""`, "]", ",", `"b"`, ":", "{", "}", ",", `"c"`, ":", "false", "}"},
}

// spread returns a value whose offsets from a place on are greater.
func spread(v api.Value, from, by int) api.Value {
	place := func(at int) int {
		if at >= from {
			at += by
		}
		return at
	}
	m := api.Value{Kind: v.Kind, B: v.B, N: v.N, S: v.S, At: place(v.At)}
	for _, x := range v.Items {
		m.Items = append(m.Items, spread(x, from, by))
	}
	for _, x := range v.Members {
		m.Members = append(m.Members, member(place(x.At), x.Key, spread(x.Value, from, by)))
	}
	return m
}

// value returns the value of a text that is not wrong.
func value(t *testing.T, s string) api.Value {
	t.Helper()
	v, at, e := jsonvalue.Parse(s)
	if at != len(s) || e != api.OK {
		t.Fatalf("Parse(%q): %d, %v", s, at, e)
	}
	return v
}

// P11.1, P11.4: white space of each kind before and after each token moves the offsets behind it, and changes nothing else.
func TestWhiteSpace(t *testing.T) {
	for _, tokens := range tokenLists {
		plain := value(t, strings.Join(tokens, ""))
		for i := range len(tokens) + 1 {
			before, behind := strings.Join(tokens[:i], ""), strings.Join(tokens[i:], "")
			for _, space := range []string{" ", "\t", "\n", "\r", "\r\n", "  ", " \t\n\r ", strings.Repeat("\n", 1000)} {
				s := before + space + behind
				wantValue(t, s, spread(plain, len(before), len(space)))
				if v := value(t, s); !jsonvalue.Equal(v, plain) || !jsonvalue.Equal(plain, v) {
					t.Errorf("%q has another value than %q", s, before+behind)
				}
				wantValue(t, mark+s, moved(spread(plain, len(before), len(space)), 3))
				compare(t, s)
			}
		}
	}
}

// P11.4: white space at any places at once.
func TestWhiteSpaceAtManyPlaces(t *testing.T) {
	for _, tokens := range tokenLists {
		plain := value(t, strings.Join(tokens, ""))
		gaps := len(tokens) + 1
		for chosen := range 1 << min(gaps, 11) {
			s := ""
			for i := range gaps {
				if chosen>>(i%11)&1 != 0 {
					s += " \n\t\r"[i%4:]
				}
				if i < len(tokens) {
					s += tokens[i]
				}
			}
			if !jsonvalue.Equal(value(t, s), plain) {
				t.Errorf("%q has another value than %q", s, strings.Join(tokens, ""))
			}
			compare(t, s)
		}
	}
}

// P11.1: no other byte is white space.
func TestNoOtherWhiteSpace(t *testing.T) {
	for _, tokens := range tokenLists {
		for i := range len(tokens) + 1 {
			before, behind := strings.Join(tokens[:i], ""), strings.Join(tokens[i:], "")
			want := api.ErrSyntax
			if i == len(tokens) {
				want = api.ErrTrailing
			}
			for _, s := range []string{"\x00", "\v", "\f", "\x08", "\x0E", "\x1F", "\x7F", "\x80", "\x85", "\xA0", "\xFF", "\u0085", "\u00A0", "\u2003", "\u2028", "\u3000", "\u200B", ";", "#", "//", "/**/", "\\", "\\n", "&#32;"} {
				wantError(t, before+s+behind, len(before), want)
				wantError(t, before+" "+s+behind, len(before)+1, want)
				wantError(t, before+s+" "+behind, len(before), want)
			}
			if i > 0 {
				wantError(t, before+mark+behind, len(before), want)
			}
			for b := range 256 {
				compare(t, before+string([]byte{byte(b)})+behind)
			}
		}
	}
}

// P11.1: the mark is ignored at the beginning, but counts for offsets, and nowhere else.
func TestMark(t *testing.T) {
	wantError(t, mark, 3, api.ErrEOF)
	wantError(t, mark+" \n", 5, api.ErrEOF)
	wantError(t, mark+mark, 3, api.ErrSyntax)
	wantError(t, mark+mark+"1", 3, api.ErrSyntax)
	wantError(t, mark+"["+mark, 4, api.ErrSyntax)
	wantError(t, mark+"01", 3, api.ErrNumber)
	wantError(t, mark+`{"a":1,"a":2}`, 10, api.ErrDuplicate)
	wantError(t, mark+`"\x"`, 4, api.ErrEscape)
	wantError(t, mark+`"a`, 3, api.ErrEOF)
	wantError(t, mark+"1 x", 5, api.ErrTrailing)
	wantError(t, mark+strings.Repeat("[", 101), 103, api.ErrDepth)
	wantError(t, mark+strings.Repeat("[", 100), 103, api.ErrEOF)
	for _, space := range []string{" ", "\n", "\t\r", mark + "\n"} {
		wantError(t, space+mark+"1", len(space), api.ErrSyntax)
	}
	wantError(t, "\x00"+mark+"1", 0, api.ErrSyntax)
	for _, tokens := range tokenLists {
		s := strings.Join(tokens, "")
		v := value(t, s)
		wantValue(t, mark+s, moved(v, 3))
		wantValue(t, mark+" "+s+"\n", moved(v, 4))
		wantError(t, s+mark, len(s), api.ErrTrailing)
		wantError(t, s+" "+mark, len(s)+1, api.ErrTrailing)
		wantError(t, mark+s+mark, 3+len(s), api.ErrTrailing)
		wantError(t, mark+mark+s, 3, api.ErrSyntax)
		wantError(t, " "+mark+s, 1, api.ErrSyntax)
		for _, part := range []string{"\xEF", "\xEF\xBB", "\xBB\xBF", "\xBF", "\xEF\xBF\xBB", "\xEF\xBB\xBE", "\xEF\xBB ", "\xFE\xFF", "\xFF\xFE"} {
			wantError(t, part+s, 0, api.ErrSyntax)
			wantError(t, part, 0, api.ErrSyntax)
			wantError(t, mark+part+s, 3, api.ErrSyntax)
		}
	}
	wantValue(t, `"`+mark+`"`, str(0, "\uFEFF"))
	wantValue(t, mark+`{"`+mark+`":"`+mark+`"}`, object(3, member(4, "\uFEFF", str(10, "\uFEFF"))))
}

// P11.1: texts that end before a value, and texts that end at each of their bytes.
func TestEndsTooSoon(t *testing.T) {
	for _, s := range []string{"", " ", "\t", "\n", "\r", " \t\n\r ", strings.Repeat(" ", 1000), "[", "[ ", "[1", "[1 ", "[1,", "[1,\n", "[[", "[[]", "[[],", "{", "{ ", `{"a"`, `{"a" `, `{"a":`, `{"a": `, `{"a":1`, `{"a":1 `, `{"a":1,`, `{"a":1, `, `{"a":{}`, "[null", "[true", "[false", `[""`, "[-0", `[{"a":[`} {
		wantError(t, s, len(s), api.ErrEOF)
		wantError(t, mark+s, 3+len(s), api.ErrEOF)
	}
	for _, tokens := range tokenLists {
		if len(tokens) == 1 {
			continue
		}
		for i, token := range tokens {
			before := strings.Join(tokens[:i], "")
			wantError(t, before, len(before), api.ErrEOF)
			wantError(t, before+" ", len(before)+1, api.ErrEOF)
			for n := 1; n < len(token); n++ {
				s := before + token[:n]
				at, e := len(s), api.ErrEOF
				switch {
				case token[0] == '"':
					_, at, e = jsonstring.Parse(s, len(before))
				case token[:n] == "-":
					at, e = len(before), api.ErrNumber
				case 'a' <= token[0] && token[0] <= 'z':
					at, e = len(before), api.ErrSyntax
				}
				wantError(t, s, at, e)
			}
		}
	}
	for _, s := range samples {
		for i := range len(s) + 1 {
			compare(t, s[:i])
			compare(t, s[i:])
		}
	}
}

// samples have values of all kinds.
var samples = []string{
	"null", "-9223372036854775808", `"\ud83d\ude00é"`, "[]", "{}", mark + " [true , false]\n", `{"a": [1, -20]}`, `[{"a":1},{"a":2}]`, `{"a":{"b":[null]},"\u0062":"x"}`, `[[[0]],[],"",{"":{}}]`, `{"version": "1.1", "items": [{"id": 7, "tags": []}]}`,
}

// nest returns a text or a part of one with arrays and objects within each other; kinds are their first bytes, used in turn. It returns the text before the inside, and the text behind it.
func nest(n int, kinds string) (string, string) {
	var before, behind string
	for i := range n {
		if kinds[i%len(kinds)] == '[' {
			before, behind = before+"[", "]"+behind
		} else {
			before, behind = before+`{"":`, "}"+behind
		}
	}
	return before, behind
}

// nestValue returns the value of such a text.
func nestValue(n int, kinds string, inside ...api.Value) api.Value {
	for i := n - 1; i >= 0; i-- {
		before, _ := nest(i, kinds)
		at := len(before)
		if kinds[i%len(kinds)] == '[' {
			inside = []api.Value{array(at, inside...)}
			continue
		}
		var members []api.Member
		for _, v := range inside {
			members = append(members, member(at+1, "", v))
		}
		inside = []api.Value{object(at, members...)}
	}
	return inside[0]
}

// P11.1: depths up to the greatest one, with arrays, with objects and with both.
func TestDepths(t *testing.T) {
	for _, kinds := range []string{"[", "{", "[{", "{[", "[[{", "{{["} {
		for n := 1; n <= 100; n++ {
			before, behind := nest(n, kinds)
			// The value within the innermost array or object is no array or object, and may be deeper by one.
			wantValue(t, before+"1"+behind, nestValue(n, kinds, integer(len(before), 1)))
			wantValue(t, before+`"a"`+behind, nestValue(n, kinds, str(len(before), "a")))
			if n < 100 {
				wantValue(t, before+"[]"+behind, nestValue(n, kinds, array(len(before))))
				wantValue(t, before+"{}"+behind, nestValue(n, kinds, object(len(before))))
			}
			wantError(t, before, len(before), api.ErrEOF)
			if v := value(t, before+"null"+behind); jsonvalue.Depth(v) != n+1 {
				t.Errorf("the depth of a value in %d others is %d", n, jsonvalue.Depth(v))
			}
		}
		before, behind := nest(99, kinds)
		for _, inside := range []string{"[]", "{}", "[ ]", "[1]", "[1,2,null]", `{"a":1}`, `{"a":"","b":true}`} {
			if e := compare(t, before+inside+behind); e != api.OK {
				t.Errorf("%s at the depth 100: %v", inside, e)
			}
		}
	}
}

// P11.1: one more than the greatest depth is an error at the array or object, ahead of what is in it and behind it.
func TestTooDeep(t *testing.T) {
	for _, kinds := range []string{"[", "{", "[{", "{[", "[[{", "{{["} {
		before, behind := nest(100, kinds)
		for _, first := range []string{"[", "{"} {
			for _, inside := range []string{"", "]", "}", "1]", "01", ",", `"\x"`, `"a":1,"a":2}`, "]" + behind, "}" + behind, "\x00", "\xFF", "[", "{", " ", "nul", strings.Repeat("[", 1000)} {
				wantError(t, before+first+inside, len(before), api.ErrDepth)
				wantError(t, before+" \n"+first+inside, len(before)+2, api.ErrDepth)
				wantError(t, mark+before+first+inside, len(before)+3, api.ErrDepth)
			}
		}
		// What precedes it is an error still.
		wantError(t, before+",[", len(before), api.ErrSyntax)
		wantError(t, before+"01,[", len(before), api.ErrNumber)
		wantError(t, before+"nul[", len(before), api.ErrSyntax)
		wantError(t, before+"1 [", len(before)+2, api.ErrSyntax)
	}
	for _, n := range []int{101, 102, 1000, 1 << 20} {
		wantError(t, strings.Repeat("[", n), 100, api.ErrDepth)
		wantError(t, strings.Repeat(`{"a":`, n), 500, api.ErrDepth)
		wantError(t, strings.Repeat("[", n)+strings.Repeat("]", n), 100, api.ErrDepth)
	}
	wantError(t, strings.Repeat("[", 100)+"1,[", 102, api.ErrDepth)
	wantError(t, strings.Repeat("[", 100)+"],[[", 103, api.ErrDepth)
	wantError(t, strings.Repeat("[", 99)+`{"a":1,"a":[`, 106, api.ErrDuplicate)
	wantError(t, strings.Repeat("[", 99)+`{"a":1,"b":[`, 110, api.ErrDepth)
	wantError(t, strings.Repeat("[", 100)+`"[",{`, 104, api.ErrDepth)
	// Arrays and objects that have ended do not count, nor do brackets in strings.
	for _, kinds := range []string{"[", "{", "[{"} {
		before, behind := nest(98, kinds)
		for _, s := range []string{
			"[" + strings.Repeat(before+"1"+behind+",", 5) + before + "{}" + behind + "]",
			`{"a":` + before + "[]" + behind + `,"b":` + before + "[1]" + behind + "}",
			before + "[" + strings.Repeat("1,", 300) + "2]" + behind,
			"[" + strings.Repeat("[],{},", 300) + before + "null" + behind + "]",
			before + `["` + strings.Repeat("[{", 300) + `"]` + behind,
		} {
			if e := compare(t, s); e != api.OK {
				t.Errorf("Parse(%q): %v", s, e)
			}
		}
		s := "[" + before + "[]" + behind + "," + before
		wantError(t, s+"[{}]"+behind+"]", len(s)+1, api.ErrDepth)
	}
}

// P11.1: what is in arrays and objects at the last depths.
func TestEveryShortInside(t *testing.T) {
	for depth := 98; depth <= 101; depth++ {
		for _, kinds := range []string{"[", "{"} {
			before, behind := nest(depth, kinds)
			every("", []string{"[", "]", "{", "}", ",", "1", `"a":`, `"b":{`}, 3, func(s string) bool {
				compare(t, before+s)
				return compare(t, before+s+behind) != api.ErrDepth
			})
		}
	}
}

// P11.1: keys that an object has already, with the error at the later key, whatever follows.
func TestEqualKeys(t *testing.T) {
	for _, c := range []struct {
		s  string
		at int
	}{
		{`{"a":1,"a"`, 7}, {`{"":1,""`, 6}, {`{"a":1,"\u0061"`, 7}, {`{"\u0061":1,"a"`, 12}, {`{"\u0061":1,"\u0061"`, 12}, {`{"\n":1,"\u000a"`, 8}, {`{"\u000A":1,"\u000a"`, 12}, {`{"/":1,"\/"`, 7}, {`{"\"":1,"\u0022"`, 8}, {`{"é":1,"\u00e9"`, 8}, {`{"\ud83d\ude00":1,"😀"`, 18}, {`{"\uD83D\uDE00":1,"\ud83d\ude00"`, 18}, {`{"\u0000":1,"\u0000"`, 12},
		{`{"a":1,"b":2,"a"`, 13}, {`{"a":1,"b":2,"b"`, 13}, {`{"a":1,"b":2,"c":3,"b"`, 19}, {`{"a":{},"a"`, 8}, {`{"a":{"a":1},"a"`, 13}, {`{"a":{"b":1},"b":2,"b"`, 19}, {`{"a":[{"a":1}],"a"`, 15}, {`{"a":null,"a"`, 10}, {`{"a":"a","a"`, 9}, {"{ \"a\" : 1 ,\n\"a\"", 12},
		{`[{"a":1},{"a":2,"a"`, 16}, {`{"a":{"b":1,"b"`, 12}, {`{"a":{"a":1,"a"`, 12}, {`[{"a":1,"a"`, 8}, {`{"a":1,"b":{"c":1,"c"`, 18}, {`{"a":1,"b":{"a":2},"b"`, 19}, {mark + `{"a":1,"a"`, 10},
		{strings.Repeat("[", 99) + `{"a":1,"a"`, 106}, {strings.Repeat(`{"a":`, 99) + `{"a":1,"a"`, 502}, {`{"` + strings.Repeat("a", 1000) + `":1,"` + strings.Repeat("a", 1000) + `"`, 1006},
	} {
		for _, behind := range []string{"", ":", ":2}", ":2", ":01}", ":nul}", ",", "}", "]", " ", "\x00", "\xFF", `"`, `"b"`, ":[", ":" + strings.Repeat("[", 200), `:"\x"}`, `:1,"a":2}`, `: 1 }}}`, "1", "\n:\t2}"} {
			wantError(t, c.s+behind, c.at, api.ErrDuplicate)
		}
	}
	// A key must have been read, and what precedes it counts first.
	wantError(t, `{"a":1,"a`, 7, api.ErrEOF)
	wantError(t, `{"a":1,"a\x":2,"a":3}`, 9, api.ErrEscape)
	wantError(t, `{"a":01,"a":2}`, 5, api.ErrNumber)
	wantError(t, `{"a":1 "a":2}`, 7, api.ErrSyntax)
	wantError(t, `{"a" "a":2}`, 5, api.ErrSyntax)
	wantError(t, `{"a":{"b":1,"b":2},"a":3}`, 12, api.ErrDuplicate)
}

// P11.1: keys that are equal in different objects, and keys that only look alike.
func TestDifferentKeys(t *testing.T) {
	for _, s := range []string{
		`{"a":{"a":1}}`, `{"a":{"a":{"a":{"a":[]}}}}`, `[{"a":1},{"a":1}]`, `[{"a":1},{"\u0061":1},{"a":{}}]`, `{"a":{"b":1},"b":{"a":1}}`, `{"b":1,"a":{"b":1},"c":{"b":1}}`, `{"a":[{"a":1},{"a":1}],"b":{"a":1}}`, `{"a":{"b":1},"b":1}`, `{"a":{"":1},"":1}`,
		`{"a":"a"}`, `{"a":"b","b":"a"}`, `["a","a"]`, `{"a":["a","a"],"b":"a"}`,
		`{"a":1,"A":2}`, `{"a":1,"a ":2," a":3}`, `{"a":1,"aa":2,"":3}`, `{"a":1,"\u0000a":2,"a\u0000":3}`, `{"é":1,"e\u0301":2,"\u0065":3}`, `{"\n":1,"\\n":2,"n":3}`, `{"\\u0061":1,"a":2}`, `{"/":1,"\\/":2}`, `{"1":1,"01":2,"1.0":3}`, `{"null":null,"":null}`, `{"\ud83d\ude00":1,"\ud83d\ude01":2}`, `{"ſ":1,"s":2,"S":3}`,
	} {
		if e := compare(t, s); e != api.OK {
			t.Errorf("Parse(%q): %v", s, e)
		}
	}
	keys := []string{`"a"`, `"b"`, `""`, `"\u0061"`, `"\n"`, `"\u000a"`, `"A"`, `"aa"`}
	for _, a := range keys {
		for _, b := range keys {
			for _, c := range keys {
				compare(t, "{"+a+":1,"+b+":2,"+c+":3}")
				compare(t, "{"+a+":{"+b+":1,"+c+":2}}")
				compare(t, "{"+a+":{"+b+":1},"+c+":2}")
				compare(t, "[{"+a+":1},{"+b+":1,"+c+":2}]")
			}
		}
	}
}

// wrongTexts are texts that become wrong at an offset, whatever follows behind white space.
var wrongTexts = []struct {
	s  string
	at int
	e  api.Errno
}{
	{"]", 0, api.ErrSyntax}, {"}", 0, api.ErrSyntax}, {",", 0, api.ErrSyntax}, {":", 0, api.ErrSyntax}, {" ]", 1, api.ErrSyntax}, {"\n,1", 1, api.ErrSyntax}, {"a", 0, api.ErrSyntax}, {"'a'", 0, api.ErrSyntax}, {"//", 0, api.ErrSyntax}, {"/**/1", 0, api.ErrSyntax}, {"#", 0, api.ErrSyntax}, {"\\", 0, api.ErrSyntax}, {"\x00", 0, api.ErrSyntax}, {"\v1", 0, api.ErrSyntax}, {"\u00A01", 0, api.ErrSyntax}, {"\xFF", 0, api.ErrSyntax}, {"<a/>", 0, api.ErrSyntax}, {"(1)", 0, api.ErrSyntax},
	{"[,", 1, api.ErrSyntax}, {"[,1]", 1, api.ErrSyntax}, {"[1,]", 3, api.ErrSyntax}, {"[1,,", 3, api.ErrSyntax}, {"[1,2,]", 5, api.ErrSyntax}, {"[1,,2]", 3, api.ErrSyntax}, {"[1 2]", 3, api.ErrSyntax}, {"[[]1", 3, api.ErrSyntax}, {"[1[", 2, api.ErrSyntax}, {"[null null", 6, api.ErrSyntax}, {`["a""b"`, 4, api.ErrSyntax}, {`[1"a"`, 2, api.ErrSyntax}, {"[{}{", 3, api.ErrSyntax}, {"[1:", 2, api.ErrSyntax}, {"[:", 1, api.ErrSyntax}, {`["a":1]`, 4, api.ErrSyntax}, {"[1;2]", 2, api.ErrSyntax}, {"[1/**/]", 2, api.ErrSyntax}, {"[[],]", 4, api.ErrSyntax},
	{"[}", 1, api.ErrSyntax}, {"[1}", 2, api.ErrSyntax}, {"[1,}", 3, api.ErrSyntax}, {"[[]}", 3, api.ErrSyntax}, {"[{]", 2, api.ErrSyntax}, {"[{}}", 3, api.ErrSyntax}, {"[ \n}", 3, api.ErrSyntax},
	{"{]", 1, api.ErrSyntax}, {"{,", 1, api.ErrSyntax}, {"{:", 1, api.ErrSyntax}, {"{:1}", 1, api.ErrSyntax}, {"{1", 1, api.ErrSyntax}, {"{1:1}", 1, api.ErrSyntax}, {"{-", 1, api.ErrSyntax}, {"{01:1}", 1, api.ErrSyntax}, {"{null", 1, api.ErrSyntax}, {"{true:1}", 1, api.ErrSyntax}, {"{nul", 1, api.ErrSyntax}, {"{a:1}", 1, api.ErrSyntax}, {"{'a':1}", 1, api.ErrSyntax}, {"{[]:1}", 1, api.ErrSyntax}, {"{[", 1, api.ErrSyntax}, {"{{}:1}", 1, api.ErrSyntax}, {"{{", 1, api.ErrSyntax}, {"{ \t]", 3, api.ErrSyntax},
	{`{"a"}`, 4, api.ErrSyntax}, {`{"a",`, 4, api.ErrSyntax}, {`{"a"]`, 4, api.ErrSyntax}, {`{"a"1`, 4, api.ErrSyntax}, {`{"a" 1}`, 5, api.ErrSyntax}, {`{"a"=1}`, 4, api.ErrSyntax}, {`{"a""b"`, 4, api.ErrSyntax}, {`{"a"[`, 4, api.ErrSyntax}, {`{"a"{`, 4, api.ErrSyntax}, {`{"a"null`, 4, api.ErrSyntax}, {`{"a"01`, 4, api.ErrSyntax}, {`{"a";1`, 4, api.ErrSyntax}, {`{"a"=>1`, 4, api.ErrSyntax},
	{`{"a":}`, 5, api.ErrSyntax}, {`{"a":,`, 5, api.ErrSyntax}, {`{"a":]`, 5, api.ErrSyntax}, {`{"a"::1`, 5, api.ErrSyntax}, {`{"a": }`, 6, api.ErrSyntax}, {`{"a":+1`, 5, api.ErrSyntax}, {`{"a":b`, 5, api.ErrSyntax},
	{`{"a":1]`, 6, api.ErrSyntax}, {`{"a":1:`, 6, api.ErrSyntax}, {`{"a":1;`, 6, api.ErrSyntax}, {`{"a":1 "b":2}`, 7, api.ErrSyntax}, {`{"a":1"b"`, 6, api.ErrSyntax}, {`{"a":1[`, 6, api.ErrSyntax}, {`{"a":[]{`, 7, api.ErrSyntax}, {`{"a":{}]`, 7, api.ErrSyntax}, {`{"a":[}`, 6, api.ErrSyntax}, {`{"a":{]`, 6, api.ErrSyntax}, {`{"a":1 2`, 7, api.ErrSyntax},
	{`{"a":1,}`, 7, api.ErrSyntax}, {`{"a":1,,`, 7, api.ErrSyntax}, {`{"a":1,]`, 7, api.ErrSyntax}, {`{"a":1,:`, 7, api.ErrSyntax}, {`{"a":1,2`, 7, api.ErrSyntax}, {`{"a":1,null`, 7, api.ErrSyntax}, {`{"a":1,[`, 7, api.ErrSyntax}, {`{"a":1,{`, 7, api.ErrSyntax}, {`{"a":1, b`, 8, api.ErrSyntax}, {`{"a":1,"b":2,}`, 13, api.ErrSyntax}, {`{"a":1,"b"}`, 10, api.ErrSyntax}, {`{"a":1,"b",`, 10, api.ErrSyntax},
	{"[]]", 2, api.ErrTrailing}, {"[]}", 2, api.ErrTrailing}, {"{}}", 2, api.ErrTrailing}, {"{}]", 2, api.ErrTrailing}, {"[],", 2, api.ErrTrailing}, {"{}:", 2, api.ErrTrailing}, {"[] []", 3, api.ErrTrailing}, {"{}{", 2, api.ErrTrailing}, {"1,2", 1, api.ErrTrailing}, {"1 2", 2, api.ErrTrailing}, {"1 01", 2, api.ErrTrailing}, {"null null", 5, api.ErrTrailing}, {"nullx", 4, api.ErrTrailing}, {"true,", 4, api.ErrTrailing}, {"false false", 6, api.ErrTrailing}, {`"a"b`, 3, api.ErrTrailing}, {`"a" "b"`, 4, api.ErrTrailing}, {`"""`, 2, api.ErrTrailing}, {`"a":1`, 3, api.ErrTrailing}, {"[1]//", 3, api.ErrTrailing}, {"[1]\x00", 3, api.ErrTrailing}, {"{}\xFF", 2, api.ErrTrailing}, {"0\u00A0", 1, api.ErrTrailing}, {`{"a":1}}`, 7, api.ErrTrailing}, {"1\n]", 2, api.ErrTrailing}, {"[]\v", 2, api.ErrTrailing},
	{"01", 0, api.ErrNumber}, {"-", 0, api.ErrNumber}, {"[1.5", 1, api.ErrNumber}, {"[01]", 1, api.ErrNumber}, {"[1,2e3", 3, api.ErrNumber}, {`{"a":-x`, 5, api.ErrNumber}, {`{"a":1-`, 5, api.ErrNumber}, {"9223372036854775808", 0, api.ErrNumber}, {"[-9223372036854775809]", 1, api.ErrNumber},
	{"nul", 0, api.ErrSyntax}, {"[tru]", 1, api.ErrSyntax}, {`{"a":falsy`, 5, api.ErrSyntax}, {"[1,n", 3, api.ErrSyntax}, {"[nullx", 5, api.ErrSyntax}, {"[truetrue", 5, api.ErrSyntax}, {`{"a":nullx`, 9, api.ErrSyntax},
	{`"\x`, 1, api.ErrEscape}, {`["a","\u12"`, 6, api.ErrEscape}, {`{"\ud83d"`, 2, api.ErrEscape}, {`{"a":"\` + "\n", 6, api.ErrEscape}, {"\"\n", 1, api.ErrChar}, {"[\"a\x00", 3, api.ErrChar}, {"{\"\t", 2, api.ErrChar}, {"\"\xFF", 1, api.ErrUTF8}, {"{\"a\":1,\"b\xC3\"", 9, api.ErrUTF8},
	{`{"a":1,"a"`, 7, api.ErrDuplicate}, {`[{"a":{"b":1,"b"`, 13, api.ErrDuplicate}, {`{"a":1,"\u0061"`, 7, api.ErrDuplicate},
	{strings.Repeat("[", 101), 100, api.ErrDepth}, {strings.Repeat(`{"":`, 101), 400, api.ErrDepth}, {"[1," + strings.Repeat("[", 99) + "{", 102, api.ErrDepth},
}

// P11.1: the first of two faults counts, and whatever else follows does not matter.
func TestFirstFault(t *testing.T) {
	for _, c := range wrongTexts {
		wantError(t, c.s, c.at, c.e)
		wantError(t, mark+c.s, 3+c.at, c.e)
		compare(t, c.s)
		for _, behind := range []string{" ", "]", "}", ",", ":", "\n1", " 1", ` "a":1}`, "\x00", " \xFF", "\t[", "\r{", "]]}}", " null"} {
			wantError(t, c.s+behind, c.at, c.e)
		}
		for _, second := range wrongTexts {
			wantError(t, c.s+" "+second.s, c.at, c.e)
			wantError(t, c.s+","+second.s, c.at, c.e)
		}
	}
}

// P11.1: a fault within arrays and objects, behind others without faults.
func TestFaultsWithin(t *testing.T) {
	for _, c := range wrongTexts {
		if c.e == api.ErrTrailing || c.e == api.ErrDepth {
			continue
		}
		for _, before := range []string{"[1,", "[ ", `{"x":`, `{"x":1,"a":`, `[{"a":1,"b":{}},`, `[[[],{"a":`, `["]}",`, "[-1,null,"} {
			at, e := c.at, c.e
			// An empty array can end where there is no value.
			if strings.TrimLeft(c.s, "\n ")[0] == ']' && before == "[ " {
				continue
			}
			wantError(t, before+c.s, len(before)+at, e)
			wantError(t, before+c.s+" ]", len(before)+at, e)
		}
	}
}

// every calls f with a string and with all that extend it by at most n of the parts. Strings for which f returns false are not extended.
func every(s string, parts []string, n int, f func(string) bool) {
	if !f(s) || n == 0 {
		return
	}
	for _, p := range parts {
		every(s+p, parts, n-1, f)
	}
}

// awkward are parts that together form texts, and almost texts.
var awkward = []string{"[", "]", "{", "}", ",", ":", `"a"`, `"\u0061"`, `"`, "1", "-", "null", "t", " ", "\x00", mark}

// P11.1 to P11.4: all short texts of awkward parts.
func TestEveryShortText(t *testing.T) {
	every("", awkward, 4, func(s string) bool {
		compare(t, s)
		comparePackageJSON(t, s)
		return true
	})
	for _, first := range []string{"", "[", "{", `{"a":1,`} {
		every(first, []string{"[", "]", "{", "}", ",", `"a":`, `"b":`, "1", `"c"`}, 8, func(s string) bool {
			e := compare(t, s)
			comparePackageJSON(t, s)
			// What is wrong whatever follows is not extended. Something is wrong at the end only because it is the end.
			return e == api.OK || e == api.ErrEOF
		})
	}
}

// P11.1: any byte in place of any other one, or before it, and each part left out or doubled.
func TestEveryChange(t *testing.T) {
	for _, s := range samples {
		for i := range len(s) + 1 {
			for b := range 256 {
				compare(t, s[:i]+string([]byte{byte(b)})+s[i:])
				if i < len(s) {
					compare(t, s[:i]+string([]byte{byte(b)})+s[i+1:])
				}
			}
			for j := i + 1; j <= len(s); j++ {
				compare(t, s[:i]+s[j:])
				compare(t, s[:j]+s[i:])
			}
		}
	}
}

// P11.1: each two bytes.
func TestEveryTwoBytes(t *testing.T) {
	for b := range 256 * 256 {
		s := string([]byte{byte(b >> 8), byte(b)})
		compare(t, s)
		compare(t, "["+s+"]")
		compare(t, `{"a":`+s+"1}")
	}
}

// decode reads a value as package json reads it, without offsets.
func decode(d *json.Decoder) (api.Value, error) {
	next, err := d.Token()
	if err != nil {
		return api.Value{}, err
	}
	var v api.Value
	switch x := next.(type) {
	case bool:
		v = boolean(0, x)
	case json.Number:
		n, err := x.Int64()
		if err != nil {
			return api.Value{}, err
		}
		v = integer(0, n)
	case string:
		v = str(0, x)
	case json.Delim:
		v.Kind = api.Array
		if x == '{' {
			v.Kind = api.Object
		}
		for d.More() {
			key := ""
			if x == '{' {
				k, err := d.Token()
				if err != nil {
					return api.Value{}, err
				}
				key = k.(string)
			}
			y, err := decode(d)
			if err != nil {
				return api.Value{}, err
			}
			if x == '{' {
				v.Members = append(v.Members, member(0, key, y))
			} else {
				v.Items = append(v.Items, y)
			}
		}
		if _, err := d.Token(); err != nil {
			return api.Value{}, err
		}
	}
	return v, nil
}

// comparePackageJSON compares Parse with package json, which permits more: other numbers, equal keys, any bytes in strings, and any depth.
func comparePackageJSON(t *testing.T, s string) {
	t.Helper()
	got, _, e := jsonvalue.Parse(s)
	s = strings.TrimPrefix(s, mark)
	switch e {
	case api.OK:
		d := json.NewDecoder(strings.NewReader(s))
		d.UseNumber()
		want, err := decode(d)
		if err != nil || !json.Valid([]byte(s)) || show(got, false) != show(want, false) {
			t.Errorf("Parse(%q) = %s; want %s, %v", s, show(got, false), show(want, false), err)
		}
	case api.ErrSyntax, api.ErrEOF, api.ErrTrailing, api.ErrChar:
		if json.Valid([]byte(s)) {
			t.Errorf("Parse(%q): %v", s, e)
		}
	}
}

// P11.1: package json reads the same values.
func TestPackageJSON(t *testing.T) {
	for _, s := range samples {
		comparePackageJSON(t, s)
		for i := range len(s) + 1 {
			comparePackageJSON(t, s[:i])
			for _, part := range awkward {
				comparePackageJSON(t, s[:i]+part+s[i:])
			}
		}
	}
	for _, c := range wrongTexts {
		comparePackageJSON(t, c.s)
	}
}

// kinds are those of the values of texts, and others.
var kinds = []int{api.Null, api.Bool, api.Int, api.String, api.Array, api.Object, -1, 6, 7, math.MinInt, math.MaxInt}

// P11.2: the first member with a key, of objects only.
func TestGet(t *testing.T) {
	inner := object(5, member(6, "a", integer(10, 1)))
	v := object(1, member(2, "a", integer(3, 4)), member(7, "b", inner), member(8, "", null(9)), member(11, "a", integer(12, 5)), member(13, "\xFF", str(14, "x")), member(15, "b", boolean(16, true)))
	for _, c := range []struct {
		key  string
		want api.Value
		ok   bool
	}{
		{"a", integer(3, 4), true}, {"b", inner, true}, {"", null(9), true}, {"\xFF", str(14, "x"), true},
		{"c", api.Value{}, false}, {"A", api.Value{}, false}, {"a ", api.Value{}, false}, {"aa", api.Value{}, false}, {"\xFE", api.Value{}, false}, {"\uFFFD", api.Value{}, false}, {"x", api.Value{}, false}, {strings.Repeat("a", 1000), api.Value{}, false},
	} {
		for _, kind := range kinds {
			w := v
			w.Kind = kind
			want, ok := c.want, c.ok
			if kind != api.Object {
				want, ok = api.Value{}, false
			}
			if got, found := jsonvalue.Get(w, c.key); found != ok || show(got, true) != show(want, true) {
				t.Errorf("Get(%s, %q) = %s, %v; want %s, %v", show(w, true), c.key, show(got, true), found, show(want, true), ok)
			}
		}
		if c.key != "" {
			if got, found := jsonvalue.Get(object(0, v.Members[2]), c.key); found || show(got, true) != show(api.Value{}, true) {
				t.Errorf("an object with one member has %q: %s", c.key, show(got, true))
			}
		}
	}
	for _, empty := range []api.Value{{}, null(1), object(1), array(1), array(1, v), str(1, "a"), {Kind: api.Object, Members: v.Members[:0]}, {Kind: api.Object, Items: []api.Value{v}, S: "a"}} {
		wantGot(t, empty, "a")
		wantGot(t, empty, "")
		wantGot(t, empty, "b")
	}
	// The members beyond the length do not count.
	if got, ok := jsonvalue.Get(api.Value{Kind: api.Object, Members: v.Members[:1]}, "b"); ok {
		t.Error(show(got, true))
	}
	parsed := value(t, `{"a":1,"\u0062":{"a":[2]},"":null}`)
	for key, want := range map[string]api.Value{"a": integer(5, 1), "b": object(16, member(17, "a", array(21, integer(22, 2)))), "": null(29)} {
		if got, ok := jsonvalue.Get(parsed, key); !ok || show(got, true) != show(want, true) {
			t.Errorf("Get(%q) = %s, %v", key, show(got, true), ok)
		}
	}
}

// P11.2: the depth of each kind; only arrays have items, and only objects have members.
func TestDepthOfValues(t *testing.T) {
	x := integer(1, 1)
	deep := array(0, array(0, array(0, array(0))))
	for _, c := range []struct {
		v    api.Value
		want int
	}{
		{api.Value{}, 1}, {boolean(0, true), 1}, {integer(5, 7), 1}, {str(0, "[[]]"), 1}, {array(0), 1}, {object(0), 1},
		{array(0, x), 2}, {array(0, x, x, x), 2}, {array(0, array(0)), 2}, {array(0, object(0)), 2}, {array(0, array(0, x)), 3}, {array(0, x, array(0, x), x), 3}, {array(0, array(0, array(0)), x), 3}, {array(0, x, array(0, array(0))), 3}, {array(0, array(0), array(0, array(0)), array(0)), 3}, {deep, 4}, {array(0, deep, x, deep), 5},
		{object(0, member(0, "a", x)), 2}, {object(0, member(0, "a", object(0))), 2}, {object(0, member(0, "a", x), member(0, "b", array(0, x))), 3}, {object(0, member(0, "a", array(0, x)), member(0, "b", x)), 3}, {object(0, member(0, "a", deep), member(0, "a", x)), 5}, {array(0, object(0, member(0, "", deep))), 6},
		{api.Value{Kind: api.Array, Members: []api.Member{member(0, "", deep)}}, 1}, {api.Value{Kind: api.Object, Items: []api.Value{deep}}, 1}, {api.Value{Kind: api.Array, Items: []api.Value{x}, Members: []api.Member{member(0, "", deep)}}, 2}, {api.Value{Kind: api.Object, Items: []api.Value{deep}, Members: []api.Member{member(0, "", x)}}, 2},
		{array(0, api.Value{Kind: api.String, S: "x", Items: []api.Value{deep}}), 2}, {array(0, api.Value{Kind: 6, Items: []api.Value{deep}}, x), 2}, {array(0, api.Value{Kind: -1, Members: []api.Member{member(0, "", deep)}}), 2},
		{api.Value{Kind: api.Array, Items: []api.Value{x, deep}[:1]}, 2}, {api.Value{Kind: api.Object, Members: []api.Member{member(0, "", deep)}[:0]}, 1},
	} {
		if got := jsonvalue.Depth(c.v); got != c.want {
			t.Errorf("Depth(%s) = %d; want %d", show(c.v, true), got, c.want)
		}
		compareValue(t, c.v)
		for _, kind := range kinds {
			v := c.v
			v.Kind = kind
			if got := jsonvalue.Depth(v); kind != api.Array && kind != api.Object && got != 1 {
				t.Errorf("Depth(%s) = %d; want 1", show(v, true), got)
			}
			compareValue(t, v)
		}
	}
}

// variants returns values that differ from a value in one field each, in the number or in the order of items or members.
func variants(v api.Value) []api.Value {
	var out []api.Value
	vary := func(change func(v *api.Value)) {
		w := jsonvalue.Strip(v)
		change(&w)
		out = append(out, w)
	}
	vary(func(w *api.Value) { w.Kind++ })
	vary(func(w *api.Value) { w.Kind-- })
	vary(func(w *api.Value) { w.B = !w.B })
	vary(func(w *api.Value) { w.N++ })
	vary(func(w *api.Value) { w.N ^= math.MinInt64 })
	vary(func(w *api.Value) { w.S += "v" })
	vary(func(w *api.Value) { w.Items = append(w.Items, api.Value{}) })
	vary(func(w *api.Value) { w.Items = append([]api.Value{{}}, w.Items...) })
	vary(func(w *api.Value) { w.Members = append(w.Members, api.Member{}) })
	vary(func(w *api.Value) { w.Members = append([]api.Member{{}}, w.Members...) })
	for i, x := range v.Items {
		for _, y := range variants(x) {
			vary(func(w *api.Value) { w.Items[i] = y })
		}
		vary(func(w *api.Value) { w.Items = slices.Delete(w.Items, i, i+1) })
		vary(func(w *api.Value) { w.Items[0], w.Items[i] = w.Items[i], w.Items[0] })
		vary(func(w *api.Value) { w.Items = slices.Insert(w.Items, i, x) })
	}
	for i, m := range v.Members {
		for _, y := range variants(m.Value) {
			vary(func(w *api.Value) { w.Members[i].Value = y })
		}
		vary(func(w *api.Value) { w.Members[i].Key += "v" })
		vary(func(w *api.Value) { w.Members = slices.Delete(w.Members, i, i+1) })
		vary(func(w *api.Value) { w.Members[0], w.Members[i] = w.Members[i], w.Members[0] })
		vary(func(w *api.Value) { w.Members[0].Key, w.Members[i].Key = w.Members[i].Key, w.Members[0].Key })
		vary(func(w *api.Value) { w.Members = slices.Insert(w.Members, i, m) })
	}
	return out
}

// displaced returns a value with other offsets.
func displaced(v api.Value, by int) api.Value {
	v = jsonvalue.Strip(v)
	v.At = by
	for i, x := range v.Items {
		v.Items[i] = displaced(x, by*3+i)
	}
	for i, m := range v.Members {
		v.Members[i] = member(by*(i+2), m.Key, displaced(m.Value, by*5-i))
	}
	return v
}

// values are values with all fields, of texts and others.
func values(t *testing.T) []api.Value {
	x := integer(4, 1)
	strange := api.Value{Kind: api.String, B: true, N: -1, S: "\xFF", Items: []api.Value{x, x, {}}, Members: []api.Member{{}, member(1, "a", x), member(2, "a", str(3, "x"))}, At: -5}
	out := []api.Value{{}, {Kind: -1}, {Kind: 6, S: "x"}, null(7), boolean(1, true), x, str(2, "x"), array(1), object(2), array(0, x, x), object(0, member(1, "a", x), member(2, "a", x)), object(0, member(1, "a", x), member(2, "b", null(3))), strange, array(1, strange, x), object(9, member(8, "", strange), member(7, "a", array(6)))}
	for _, s := range samples {
		out = append(out, value(t, s))
	}
	return out
}

// P11.3: two values are equal exactly if they look the same without their offsets, at the root and deep within.
func TestEqual(t *testing.T) {
	var all []api.Value
	for _, v := range values(t) {
		all = append(all, v, displaced(v, 1), displaced(v, -7))
		all = append(all, variants(v)...)
	}
	looks := make([]string, len(all))
	for i, v := range all {
		looks[i] = show(v, false)
	}
	equal, unequal := 0, 0
	for i, a := range all {
		for j, b := range all {
			want := looks[i] == looks[j]
			if jsonvalue.Equal(a, b) != want {
				t.Fatalf("Equal(%s, %s) = %v", show(a, true), show(b, true), !want)
			}
			if want {
				equal++
			} else {
				unequal++
			}
		}
	}
	if equal <= len(all) || unequal < 10*len(all) {
		t.Errorf("of %d values, %d pairs are equal and %d are not", len(all), equal, unequal)
	}
}

// P11.3: pairs in which a single part differs, written out, deeper and deeper within others.
func TestUnequal(t *testing.T) {
	x, y := str(0, "x"), str(0, "y")
	a, b := member(0, "a", x), member(0, "b", y)
	for _, c := range [][2]api.Value{
		{{}, {Kind: api.Bool}}, {{}, {Kind: api.Int}}, {{}, {Kind: api.String}}, {{}, {Kind: api.Array}}, {array(0), object(0)}, {{Kind: 6}, {Kind: 7}}, {boolean(0, true), boolean(0, false)}, {{}, {B: true}}, {integer(0, 0), integer(0, 1)}, {integer(0, 1), integer(0, -1)}, {integer(0, math.MinInt64), integer(0, 0)}, {integer(0, 1<<32), integer(0, 0)}, {{}, {N: 1}}, {x, y}, {x, str(0, "")}, {x, str(0, "X")}, {x, str(0, "xx")}, {str(0, "\xFF"), str(0, "\uFFFD")}, {integer(0, 1), str(0, "1")}, {{}, str(0, "null")}, {boolean(0, true), integer(0, 1)},
		{array(0), array(0, null(0))}, {array(0, x), array(0, x, x)}, {array(0, x, y), array(0, y, x)}, {array(0, x, y), array(0, x, x)}, {array(0, x), x}, {array(0, array(0), x), array(0, array(0, x))}, {array(0), array(0, array(0))}, {array(0, null(0)), array(0, boolean(0, false))}, {{}, {Items: []api.Value{{}}}},
		{object(0), object(0, api.Member{})}, {object(0, a), object(0, a, a)}, {object(0, a, b), object(0, b, a)}, {object(0, a), object(0, member(0, "b", x))}, {object(0, a), object(0, member(0, "a", y))}, {object(0, a), object(0, member(0, "", x))}, {object(0, a, b), object(0, member(0, "a", y), member(0, "b", x))}, {object(0, a, b), object(0, member(0, "b", x), member(0, "a", y))}, {object(0, a), array(0, x)}, {{}, {Members: []api.Member{{}}}}, {{Members: []api.Member{{}}}, {Items: []api.Value{{}}}},
		{api.Value{Kind: api.Array, Members: []api.Member{a}}, api.Value{Kind: api.Array, Members: []api.Member{b}}}, {api.Value{Kind: api.Object, Items: []api.Value{x}}, api.Value{Kind: api.Object, Items: []api.Value{y}}}, {api.Value{Kind: 9, S: "x"}, api.Value{Kind: 9, S: "y"}}, {api.Value{Kind: api.String, N: 1}, api.Value{Kind: api.String}},
	} {
		for i := range 12 {
			if jsonvalue.Equal(c[0], c[1]) || jsonvalue.Equal(c[1], c[0]) {
				t.Fatalf("Equal(%s, %s) = true", show(c[0], true), show(c[1], true))
			}
			for _, v := range c {
				if !jsonvalue.Equal(v, v) || !jsonvalue.Equal(v, displaced(v, math.MinInt)) || !jsonvalue.Equal(displaced(v, math.MaxInt), v) {
					t.Fatalf("%s does not equal itself", show(v, true))
				}
			}
			if i%2 == 0 {
				c[0], c[1] = array(1, x, c[0]), array(2, x, c[1])
			} else {
				c[0], c[1] = object(1, a, member(3, "c", c[0])), object(2, a, member(4, "c", c[1]))
			}
		}
	}
}

// P11.3: texts with different offsets have equal values, those with another order of the members have not.
func TestEqualTexts(t *testing.T) {
	for _, c := range []struct {
		a, b string
		want bool
	}{
		{`{"a":1,"b":[2]}`, " {\n\"\\u0061\" :1, \"b\":[ 2] }", true}, {"0", "-0", true}, {mark + "[]", "[ ]", true}, {`"\u00e9"`, `"é"`, true},
		{`{"a":1,"b":2}`, `{"b":2,"a":1}`, false}, {`[{"a":1,"b":2}]`, `[{"b":2,"a":1}]`, false}, {"[1,2]", "[2,1]", false}, {"[]", "{}", false}, {"null", "false", false}, {"0", "null", false}, {`""`, "null", false}, {`"1"`, "1", false}, {`{"a":null}`, "{}", false}, {"[[]]", "[]", false},
	} {
		if a, b := value(t, c.a), value(t, c.b); jsonvalue.Equal(a, b) != c.want || jsonvalue.Equal(b, a) != c.want {
			t.Errorf("the values of %q and %q: Equal = %v", c.a, c.b, !c.want)
		}
	}
}

// P11.3: copies of values of each kind, without offsets, which keep all other fields.
func TestStrip(t *testing.T) {
	for _, c := range [][2]api.Value{
		{null(1), null(0)}, {boolean(2, true), boolean(0, true)}, {integer(-1, 7), integer(0, 7)}, {str(math.MaxInt, "x"), str(0, "x")}, {array(3), array(0)}, {object(math.MinInt), object(0)},
		{array(1, integer(2, 1), array(3, null(4))), array(0, integer(0, 1), array(0, null(0)))},
		{object(1, member(2, "a", str(3, "x")), member(4, "a", object(5, member(6, "", null(7))))), object(0, member(0, "a", str(0, "x")), member(0, "a", object(0, member(0, "", null(0)))))},
		{{Kind: 9, B: true, N: 1, S: "\xFF", Items: []api.Value{null(1)}, Members: []api.Member{member(2, "b", null(3))}, At: 4}, {Kind: 9, B: true, N: 1, S: "\xFF", Items: []api.Value{{}}, Members: []api.Member{{Key: "b"}}}},
	} {
		if got := jsonvalue.Strip(c[0]); show(got, true) != show(c[1], true) {
			t.Errorf("Strip(%s) = %s; want %s", show(c[0], true), show(got, true), show(c[1], true))
		}
		for range 5 {
			compareValue(t, c[0])
			c[0] = object(1, member(2, "", array(3, c[0])))
		}
	}
	for _, v := range values(t) {
		compareValue(t, v)
		compareValue(t, displaced(v, -3))
		for _, w := range variants(v) {
			compareValue(t, displaced(w, 5))
		}
	}
}

// P11.2, P11.3, rule 4: whether an empty list is nil, and what is beyond the length of a list, makes no difference.
func TestEmptyLists(t *testing.T) {
	items := []api.Value{integer(1, 1), array(2, null(3))}
	members := []api.Member{member(4, "a", null(5)), member(6, "b", array(7, null(8)))}
	for _, c := range [][2]api.Value{
		{{}, {Items: []api.Value{}, Members: []api.Member{}}}, {{}, {Items: items[:0], Members: members[:0]}}, {array(0), {Kind: api.Array, Items: items[:0]}}, {object(0), {Kind: api.Object, Members: members[:0]}}, {array(0, array(0)), array(0, api.Value{Kind: api.Array, Items: items[:0], Members: members[:0]})},
		{{Kind: api.Array, Items: items[:1:1], Members: members[:1:1]}, {Kind: api.Array, Items: items[:1], Members: members[:1]}}, {{Kind: api.Object, Items: items[:1:1], Members: members[:1:1]}, {Kind: api.Object, Items: items[:1], Members: members[:1]}},
	} {
		if !jsonvalue.Equal(c[0], c[1]) || !jsonvalue.Equal(c[1], c[0]) || jsonvalue.Depth(c[0]) != jsonvalue.Depth(c[1]) {
			t.Errorf("%s and %s differ", show(c[0], true), show(c[1], true))
		}
		for _, v := range c {
			compareValue(t, v)
			s := jsonvalue.Strip(v)
			s.Items, s.Members = append(s.Items, str(0, "z")), append(s.Members, member(0, "z", null(0)))
		}
	}
	if show(array(0, items...), true) != show(array(0, integer(1, 1), array(2, null(3))), true) || show(object(0, members...), true) != show(object(0, member(4, "a", null(5)), member(6, "b", array(7, null(8)))), true) {
		t.Error("a list was written beyond its length")
	}
}

// overwrite changes everything in a value that others could share, also behind the ends of its lists.
func overwrite(v *api.Value) {
	z := api.Value{Kind: 9, B: true, N: -9, S: "z", At: -1}
	for i := range v.Items {
		overwrite(&v.Items[i])
	}
	for i := range v.Members {
		overwrite(&v.Members[i].Value)
	}
	items, members := v.Items[:cap(v.Items)], v.Members[:cap(v.Members)]
	for i := range items {
		items[i] = z
	}
	for i := range members {
		members[i] = member(-1, "z", z)
	}
}

// P11.3: what Strip returns is not changed with its argument, nor the other way round.
func TestStripSharesNothing(t *testing.T) {
	for i := range values(t) {
		v := values(t)[i]
		before := show(v, true)
		first, second := jsonvalue.Strip(v), jsonvalue.Strip(v)
		want := show(second, true)
		overwrite(&first)
		if show(v, true) != before || show(second, true) != want {
			t.Errorf("%s became %s, with %s instead of %s", before, show(v, true), show(second, true), want)
		}
		overwrite(&v)
		if show(second, true) != want {
			t.Errorf("%s became %s", want, show(second, true))
		}
	}
	// Two parts of the argument may share memory, but not those of the result.
	shared := array(1, str(2, "x"))
	for _, v := range []api.Value{array(0, shared, shared), object(0, member(0, "a", shared), member(0, "b", shared)), {Items: []api.Value{shared}, Members: []api.Member{member(0, "", shared)}}} {
		s := jsonvalue.Strip(v)
		parts := slices.Clone(s.Items)
		for _, m := range s.Members {
			parts = append(parts, m.Value)
		}
		overwrite(&parts[0])
		if parts[1].Items[0].S != "x" || shared.Items[0].S != "x" {
			t.Error("the parts share memory")
		}
	}
}

// Rule 4: the results of two calls share no memory, nor do two values of a result.
func TestParseSharesNothing(t *testing.T) {
	for _, s := range append(slices.Clone(samples), `[[1,2,3],[4,5,6],{"a":[7],"b":[8,9,10]},{"c":{"d":[11]}}]`, "["+strings.Repeat(`[{"a":[1]},2,3],`, 20)+"4]") {
		first, second := value(t, s), value(t, s)
		want := show(second, true)
		overwrite(&first)
		if show(second, true) != want {
			t.Errorf("Parse(%q) = %s; want %s", s, show(second, true), want)
		}
		kept := value(t, s)
		for i := range second.Items {
			overwrite(&second.Items[i])
			second.Items[i] = kept.Items[i]
		}
		for i := range second.Members {
			overwrite(&second.Members[i].Value)
			second.Members[i] = kept.Members[i]
		}
		if show(second, true) != want {
			t.Errorf("Parse(%q): two values share memory", s)
		}
	}
}

// P1: long strings, numbers and white space.
func TestLongTokens(t *testing.T) {
	const count = 1 << 20
	long := strings.Repeat("a", count)
	wantValue(t, `"`+long+`"`, str(0, long))
	wantValue(t, `{"`+long+`":1}`, object(0, member(1, long, integer(4+count, 1))))
	wantError(t, `{"`+long+`":1,"`+long+`":2}`, count+6, api.ErrDuplicate)
	wantError(t, `"`+long, 0, api.ErrEOF)
	wantError(t, long, 0, api.ErrSyntax)
	wantError(t, strings.Repeat("1", count), 0, api.ErrNumber)
	wantError(t, "-"+strings.Repeat("0", count), 0, api.ErrNumber)
	wantError(t, "["+strings.Repeat("-", count)+"]", 1, api.ErrNumber)
	wantError(t, strings.Repeat("null", count), 4, api.ErrTrailing)
	wantError(t, strings.Repeat(`"`, count), 2, api.ErrTrailing)
	wantError(t, strings.Repeat("]", count), 0, api.ErrSyntax)
	space := strings.Repeat(" \n\t\r", count/4)
	wantError(t, space, count, api.ErrEOF)
	wantValue(t, space+"[ "+space+"1"+space+"]"+space, array(count, integer(2*count+2, 1)))
	wantError(t, "[1"+space+"2", count+2, api.ErrSyntax)
	wantError(t, "1"+space+"2", count+1, api.ErrTrailing)
}

// P1: texts with many values.
func TestWideTexts(t *testing.T) {
	const count = 1 << 16
	for part, inside := range map[string]func(at int) api.Value{
		"null,":          null,
		"-7,":            func(at int) api.Value { return integer(at, -7) },
		`"a",`:           func(at int) api.Value { return str(at, "a") },
		"[],":            func(at int) api.Value { return array(at) },
		`{"a":[1]},`:     func(at int) api.Value { return object(at, member(at+1, "a", array(at+5, integer(at+6, 1)))) },
		"[[[true]],{}],": func(at int) api.Value { return array(at, array(at+1, array(at+2, boolean(at+3, true))), object(at+10)) },
	} {
		var all []api.Value
		for i := range count {
			all = append(all, inside(1+i*len(part)))
		}
		s := strings.TrimSuffix("["+strings.Repeat(part, count), ",")
		wantValue(t, s+"]", array(0, all...))
		wantError(t, s, len(s), api.ErrEOF)
		wantError(t, s+",]", len(s)+1, api.ErrSyntax)
		wantError(t, s+"],", len(s)+1, api.ErrTrailing)
	}
	s := "{"
	var members []api.Member
	for i := range count {
		key := strconv.Itoa(i)
		members = append(members, member(len(s), key, integer(len(s)+len(key)+3, int64(i))))
		s += `"` + key + `":` + key + ","
		if len(s) > 1<<14 {
			break
		}
	}
	wantValue(t, s+`"":0}`, object(0, append(members, member(len(s), "", integer(len(s)+3, 0)))...))
	for _, m := range members {
		wantError(t, s+`"`+m.Key+`":nul`, len(s), api.ErrDuplicate)
	}
}

// P1: objects with very many members, where comparing each key with each other one would take too long.
func TestManyKeys(t *testing.T) {
	const count = 1 << 18
	var out strings.Builder
	out.WriteString("{")
	for i := range count {
		out.WriteString(`"` + strconv.Itoa(i) + `":` + strconv.Itoa(i) + ",")
	}
	s := out.String()
	v := value(t, s+`"x":1}`)
	if len(v.Members) != count+1 {
		t.Errorf("%d members", len(v.Members))
	}
	for i, m := range v.Members[:count] {
		if m.Key != strconv.Itoa(i) || m.Value.N != int64(i) {
			t.Fatalf("the member %d is %q: %d", i, m.Key, m.Value.N)
		}
	}
	for _, i := range []int{0, 1, count / 2, count - 1} {
		wantError(t, s+`"`+strconv.Itoa(i)+`":1}`, len(s), api.ErrDuplicate)
		wantGot(t, v, strconv.Itoa(i))
	}
	if w := jsonvalue.Strip(v); !jsonvalue.Equal(v, w) || !allZero(w) || jsonvalue.Depth(w) != 2 {
		t.Error("Strip, Equal or Depth is wrong for a wide object")
	}
}

// P1: values that are nested as deep as is permitted.
func TestDeepValues(t *testing.T) {
	const deep = 1 << 16
	build := func(inside api.Value) api.Value {
		v := inside
		for i := range deep - 1 {
			if i%2 == 0 {
				v = array(i+1, v, str(i+2, "y"))
			} else {
				v = object(i+1, member(i+2, "a", null(i+3)), member(i+4, "b", v))
			}
		}
		return v
	}
	v := build(str(0, "x"))
	if got := jsonvalue.Depth(v); got != deep {
		t.Errorf("Depth = %d", got)
	}
	s := jsonvalue.Strip(v)
	if !jsonvalue.Equal(v, s) || !allZero(s) || jsonvalue.Equal(v, build(str(0, "y"))) || jsonvalue.Equal(v, v.Items[0]) {
		t.Error("Equal or Strip is wrong for a deep value")
	}
	for n := 0; ; n++ {
		inside, ok := jsonvalue.Get(v, "b")
		if !ok && v.Kind == api.Array {
			inside, ok = v.Items[0], true
		}
		if !ok {
			if n != deep-1 || v.S != "x" {
				t.Errorf("Get went down by %d, to %.200s", n, show(v, true))
			}
			break
		}
		v = inside
	}
}

// P1, P2: calls at the same time do not influence each other.
func TestConcurrentCalls(t *testing.T) {
	type answer struct {
		value, stripped, got string
		ok                   bool
		at, depth            int
		e                    api.Errno
	}
	ask := func(s string) answer {
		v, at, e := jsonvalue.Parse(s)
		got, ok := jsonvalue.Get(v, "a")
		return answer{show(v, true), show(jsonvalue.Strip(v), true), show(got, true), ok, at, jsonvalue.Depth(v), e}
	}
	want := map[string]answer{}
	for _, s := range samples {
		for i := range len(s) + 1 {
			want[s[:i]] = ask(s[:i])
			want[s[i:]] = ask(s[i:])
		}
	}
	for _, c := range wrongTexts {
		want[c.s] = ask(c.s)
	}
	shared := values(t)
	var wg sync.WaitGroup
	for range 4 {
		wg.Go(func() {
			for range 10 {
				for s, a := range want {
					if got := ask(s); got != a {
						t.Errorf("%q: %+v, then %+v", s, a, got)
					}
				}
				for _, v := range shared {
					compareValue(t, v)
				}
			}
		})
	}
	wg.Wait()
}

// FuzzParse checks the promises on arbitrary texts.
func FuzzParse(f *testing.F) {
	for _, s := range samples {
		f.Add(s)
	}
	for _, c := range wrongTexts {
		f.Add(c.s)
	}
	f.Fuzz(func(t *testing.T, s string) {
		compare(t, s)
		comparePackageJSON(t, s)
	})
}

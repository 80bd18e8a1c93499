package jsonwrite_test

import (
	"encoding/json"
	"fmt"
	"math"
	"math/rand/v2"
	"slices"
	"strconv"
	"strings"
	"sync"
	"testing"

	"feedvault/api"
	"feedvault/jsonvalue"
	"feedvault/jsonwrite"
)

const most = 100

// wrongKinds are below the least kind and above the greatest, also where only some of their bits count.
var wrongKinds = []int{-1, 6, 7, -2, -5, 8, 16, 255, 256, 256 + 3, 1 << 32, 1<<32 + 5, 1<<63 - 1, -1 << 63, -1<<63 + 4}

// goodStrings and badStrings are strings that are valid UTF-8, and some that are not.
var (
	goodStrings = []string{"", "a", "A", "ab", " ", "  ", " a ", "0", "-1", "null", "true", "[]", "{}", ",", ":", "a,b", `a":1,"b`, "\"", "\\", "\\\"", "\"\"", "\\\\", "\\n", "\\u0041", "/", "\\/", "</script>", "\x00", "\x01", "\x07", "\b", "\t", "\n", "\v", "\f", "\r", "\x0E", "\x1F", "\x00\x00", "a\nb", "\r\n", "\x7F", "'", "&", "<", ">", "\u0080", "\u0085", "\u00A0", "é", "\u07FF", "\u0800", "€", "\u2028", "\u2029", "\uD7FF", "\uE000", "\uFEFF", "\uFFFD", "\uFFFE", "\uFFFF", "\U00010000", "😀", "\U0010FFFF", "aé€😀", "e\u0301", strings.Repeat("x\"\n", 500)}
	wrongBytes  = []string{"\xFF", "\xFE", "\x80", "\xBF", "\xC3", "\xE9", "\xE2\x82", "\xF0\x9F\x98", "\xC0\x80", "\xC1\xBF", "\xE0\x80\x80", "\xE0\x9F\xBF", "\xED\xA0\x80", "\xED\xBF\xBF", "\xED\xA0\xBD\xED\xB8\x80", "\xF0\x80\x80\x80", "\xF4\x90\x80\x80", "\xF8\x88\x80\x80\x80"}
)

// show returns the beginning of a value as text.
func show(v api.Value) string {
	s := fmt.Sprintf("%+q", fmt.Sprintf("%+v", v))
	return s[:min(len(s), 1000)]
}

// wantText checks the canonical text of a valid value.
func wantText(t *testing.T, v api.Value, want string) {
	t.Helper()
	s, e := jsonwrite.Write(v)
	if s != want || e != api.OK {
		t.Errorf("Write(%s) = %.1000q, %v; want %.1000q", show(v), s, e, want)
	}
	if !compare(t, v) {
		t.Errorf("%s is not valid", show(v))
	}
}

func wantInvalid(t *testing.T, v api.Value) {
	t.Helper()
	if s, e := jsonwrite.Write(v); s != "" || e != api.ErrInvalid {
		t.Errorf("Write(%s) = %.1000q, %v", show(v), s, e)
	}
	if e := jsonwrite.Check(v); e != api.ErrInvalid {
		t.Errorf("Check(%s) = %v", show(v), e)
	}
	if compare(t, v) {
		t.Errorf("%s is valid", show(v))
	}
}

// compare compares Check and Write with their definitions, and checks what follows from the promises. It reports whether the value is valid.
func compare(t *testing.T, v api.Value) bool {
	t.Helper()
	before := clone(v)
	want, wantE := "", api.ErrInvalid
	if valid(v) {
		want, wantE = text(v), api.OK
	}
	if e := jsonwrite.Check(v); e != wantE {
		t.Errorf("Check(%s) = %v; want %v", show(v), e, wantE)
	}
	s, e := jsonwrite.Write(v)
	if s != want || e != wantE {
		t.Errorf("Write(%s) = %.1000q, %v; want %.1000q, %v", show(v), s, e, want, wantE)
	}
	if !same(v, before) {
		t.Errorf("%s became %s", show(before), show(v))
	}
	if e == api.OK {
		wantReadBack(t, v, s)
	}
	return wantE == api.OK
}

// wantReadBack checks P12.4 for a valid value and its canonical text.
func wantReadBack(t *testing.T, v api.Value, s string) {
	t.Helper()
	w, at, e := jsonvalue.Parse(s)
	if !jsonvalue.Equal(w, v) || at != len(s) || e != api.OK {
		t.Errorf("Parse(%.1000q) = %s, %d, %v; want %s", s, show(w), at, e, show(v))
	}
	if again, e := jsonwrite.Write(w); again != s || e != api.OK {
		t.Errorf("Write(%s) = %.1000q, %v; want %.1000q", show(w), again, e, s)
	}
}

// wrap returns a value within arrays and objects, whose kinds are repeated from the outermost one on.
func wrap(n int, kinds string, v api.Value) api.Value {
	for i := n - 1; i >= 0; i-- {
		if kinds[i%len(kinds)] == '[' {
			v = api.Value{Kind: api.Array, Items: []api.Value{v}}
		} else {
			v = api.Value{Kind: api.Object, Members: []api.Member{{Key: "k", Value: v}}}
		}
	}
	return v
}

// around returns values that have a value at several depths and places, each of which is valid exactly if the value is and is not deep.
func around(v api.Value) []api.Value {
	one, x := integer(1), str("x")
	a, b := member("a", v), member("b", v)
	var out []api.Value
	for _, n := range []int{0, 1, 2, 50} {
		for _, inside := range []api.Value{
			array(v), array(one, v), array(v, one), array(one, x, v, one), array(v, v), array(array(), v, object()),
			object(a), object(member("", one), b), object(a, member("c", one)), object(member("c", x), a, member("", one), b), object(member("k", array(v)), member("c", object(a))),
		} {
			out = append(out, wrap(n, "[{", inside), wrap(n, "{{[", inside))
		}
	}
	return out
}

// wantEverywhere checks a value alone and within other ones.
func wantEverywhere(t *testing.T, v api.Value, valid bool) {
	t.Helper()
	for _, w := range append(around(v), v) {
		if compare(t, w) != valid {
			t.Errorf("%s: valid is %v", show(w), !valid)
			return
		}
	}
}

// sample returns a valid value with values of each kind.
func sample() api.Value {
	c := object(member("a", array(null(), array())), member("\n", object()), member("é", str("\\")))
	return object(member("a", array(integer(-1), null(), boolean(true), str("x"), c, array(c, boolean(false)))), member("", str("\"")), member("b", object(member("a", integer(0)), member("c", array(array(array(), integer(math.MinInt64)))))))
}

// strange returns a value with all fields, which no text has.
func strange(kind int) api.Value {
	return api.Value{Kind: kind, B: true, N: -7, S: "s\xFF", At: -5,
		Items:   []api.Value{{At: 7}, {Kind: 9, At: math.MinInt, Items: []api.Value{{B: true}}}},
		Members: []api.Member{{Key: "a", At: 3}, {Key: "a", Value: api.Value{Kind: api.Array, At: math.MaxInt, Items: []api.Value{{At: 1}}}}, {Key: "\xFF", At: -1}}}
}

// displaced returns a copy of a value with other offsets everywhere.
func displaced(v api.Value, by int) api.Value {
	v = clone(v)
	v.At = by
	for i, x := range v.Items {
		v.Items[i] = displaced(x, by*3+i)
	}
	for i, m := range v.Members {
		v.Members[i] = api.Member{Key: m.Key, Value: displaced(m.Value, by*5-i), At: by * (i + 2)}
	}
	return v
}

// pool has values as arguments of the constructors: valid and other ones, with offsets and without them.
func pool() []api.Value {
	values := []api.Value{null(), boolean(true), integer(math.MinInt64), str(""), str("\xFF"), array(), object(), sample(), displaced(sample(), 4), {At: 3}, {B: true}, array(array(array())), object(member("a", null()), member("a", null()))}
	for _, kind := range append([]int{0, 1, 2, 3, 4, 5}, wrongKinds...) {
		values = append(values, strange(kind), api.Value{Kind: kind}, api.Value{Kind: kind, Items: []api.Value{strange(kind)}})
	}
	return values
}

// P12.1: values without others in them have the given contents and nothing else.
func TestScalars(t *testing.T) {
	want := func(got, want api.Value) {
		t.Helper()
		if !same(got, want) {
			t.Errorf("%s; want %s", show(got), show(want))
		}
	}
	want(jsonwrite.Null(), api.Value{Kind: 0})
	want(jsonwrite.Bool(false), api.Value{Kind: 1})
	want(jsonwrite.Bool(true), api.Value{Kind: 1, B: true})
	for _, n := range []int64{0, 1, -1, 9, 10, -10, 1 << 31, 1 << 32, -1 << 32, 1 << 53, 1<<53 + 1, math.MaxInt64 - 1, math.MaxInt64, math.MinInt64 + 1, math.MinInt64} {
		want(jsonwrite.Int(n), api.Value{Kind: 2, N: n})
	}
	for _, s := range slices.Concat(goodStrings, wrongBytes) {
		want(jsonwrite.String(s), api.Value{Kind: 3, S: s})
	}
}

// P12.1: arrays of no, one and several values, also of a slice's.
func TestArray(t *testing.T) {
	one, x := api.Value{Kind: 2, N: 1}, api.Value{Kind: 3, S: "x"}
	list := []api.Value{one, x, {}, one}
	for _, c := range []struct {
		got  api.Value
		want []api.Value
	}{
		{jsonwrite.Array(), nil},
		{jsonwrite.Array(nil...), nil},
		{jsonwrite.Array([]api.Value{}...), nil},
		{jsonwrite.Array(list[:0]...), nil},
		{jsonwrite.Array(jsonwrite.Null()), []api.Value{{}}},
		{jsonwrite.Array(jsonwrite.Int(1), jsonwrite.String("x")), []api.Value{one, x}},
		{jsonwrite.Array(jsonwrite.String("x"), jsonwrite.Int(1)), []api.Value{x, one}},
		{jsonwrite.Array(jsonwrite.Int(1), jsonwrite.Int(1), jsonwrite.Int(1)), []api.Value{one, one, one}},
		{jsonwrite.Array(list...), []api.Value{{Kind: 2, N: 1}, {Kind: 3, S: "x"}, {}, {Kind: 2, N: 1}}},
		{jsonwrite.Array(list[1:2]...), []api.Value{x}},
		{jsonwrite.Array(jsonwrite.Array()), []api.Value{{Kind: 4}}},
		{jsonwrite.Array(jsonwrite.Array(jsonwrite.Array(), one), jsonwrite.Object()), []api.Value{{Kind: 4, Items: []api.Value{{Kind: 4}, one}}, {Kind: 5}}},
		{jsonwrite.Array(strange(0), strange(9), strange(-1)), []api.Value{strange(0), strange(9), strange(-1)}},
	} {
		if want := (api.Value{Kind: 4, Items: c.want}); !same(c.got, want) {
			t.Errorf("%s; want %s", show(c.got), show(want))
		}
	}
}

// P12.1: objects of no, one and several members, also of a slice's.
func TestObject(t *testing.T) {
	a, b := api.Member{Key: "a", Value: api.Value{Kind: 2, N: 1}}, api.Member{Key: "", Value: api.Value{Kind: 3, S: "x"}}
	odd := api.Member{Key: "\xFF", Value: strange(9), At: -3}
	list := []api.Member{a, b, odd, a}
	for _, c := range []struct {
		got  api.Value
		want []api.Member
	}{
		{jsonwrite.Object(), nil},
		{jsonwrite.Object(nil...), nil},
		{jsonwrite.Object([]api.Member{}...), nil},
		{jsonwrite.Object(list[:0]...), nil},
		{jsonwrite.Object(jsonwrite.Member("", jsonwrite.Null())), []api.Member{{}}},
		{jsonwrite.Object(jsonwrite.Member("a", jsonwrite.Int(1)), jsonwrite.Member("", jsonwrite.String("x"))), []api.Member{a, b}},
		{jsonwrite.Object(b, a), []api.Member{b, a}},
		{jsonwrite.Object(a, a, a), []api.Member{a, a, a}},
		{jsonwrite.Object(list...), []api.Member{a, b, odd, a}},
		{jsonwrite.Object(list[2:3]...), []api.Member{odd}},
		{jsonwrite.Object(jsonwrite.Member("a", jsonwrite.Object(jsonwrite.Member("a", jsonwrite.Object())))), []api.Member{{Key: "a", Value: api.Value{Kind: 5, Members: []api.Member{{Key: "a", Value: api.Value{Kind: 5}}}}}}},
	} {
		if want := (api.Value{Kind: 5, Members: c.want}); !same(c.got, want) {
			t.Errorf("%s; want %s", show(c.got), show(want))
		}
	}
}

// P12.1: members of any key and any value.
func TestMember(t *testing.T) {
	for _, key := range slices.Concat(goodStrings, wrongBytes) {
		for _, v := range pool() {
			if got, want := jsonwrite.Member(key, v), (api.Member{Key: key, Value: v}); !sameMember(got, want) {
				t.Errorf("Member(%q, %s) = %s", key, show(v), show(object(got)))
			}
		}
	}
}

// P12.1: the offset of a result is 0, but those of what is given stay, like all other contents.
func TestOffsets(t *testing.T) {
	x := api.Value{Kind: 2, N: 1, At: 5}
	inner := api.Value{Kind: 4, Items: []api.Value{x, {At: -1}}, At: math.MaxInt}
	for _, c := range [][2]api.Value{
		{jsonwrite.Array(x), {Kind: 4, Items: []api.Value{{Kind: 2, N: 1, At: 5}}}},
		{jsonwrite.Array(jsonwrite.Null(), inner), {Kind: 4, Items: []api.Value{{}, {Kind: 4, Items: []api.Value{{Kind: 2, N: 1, At: 5}, {At: -1}}, At: math.MaxInt}}}},
		{jsonwrite.Array(jsonwrite.Array(x)), {Kind: 4, Items: []api.Value{{Kind: 4, Items: []api.Value{x}}}}},
		{jsonwrite.Object(api.Member{Key: "a", Value: x, At: 9}), {Kind: 5, Members: []api.Member{{Key: "a", Value: x, At: 9}}}},
		{jsonwrite.Object(jsonwrite.Member("a", x), api.Member{At: math.MinInt}), {Kind: 5, Members: []api.Member{{Key: "a", Value: x}, {At: math.MinInt}}}},
		{jsonwrite.Member("a", inner).Value, inner},
	} {
		if !same(c[0], c[1]) {
			t.Errorf("%s; want %s", show(c[0]), show(c[1]))
		}
	}
	if m := jsonwrite.Member("a", inner); m.At != 0 {
		t.Errorf("the offset of a member is %d", m.At)
	}
}

// every calls f with all lists of at most n of the parts.
func every[T any](list, parts []T, n int, f func([]T)) {
	f(list)
	if n > 0 {
		for _, p := range parts {
			every(append(list[:len(list):len(list)], p), parts, n-1, f)
		}
	}
}

// P12.1: all short lists of values and of members, of any kind.
func TestEveryList(t *testing.T) {
	check := func(items []api.Value) {
		t.Helper()
		before := array(items...)
		if got := jsonwrite.Array(items...); !same(got, before) {
			t.Errorf("Array(%s) = %s", show(before), show(got))
		}
		var members []api.Member
		for i, v := range items {
			members = append(members, api.Member{Key: strconv.Itoa(i / 2), Value: v, At: i})
		}
		want := object(members...)
		if got := jsonwrite.Object(members...); !same(got, want) {
			t.Errorf("Object(%s) = %s", show(want), show(got))
		}
		if !same(array(items...), before) || !same(object(members...), want) {
			t.Errorf("%s became %s", show(before), show(array(items...)))
		}
	}
	every(nil, pool(), 2, check)
	every(nil, []api.Value{null(), str("x"), array(), {Kind: 9}, {At: 1}}, 5, check)
}

// overwrite changes everything in a value that others could share, also behind the ends of its lists.
func overwrite(v *api.Value) {
	for i := range v.Items {
		overwrite(&v.Items[i])
	}
	for i := range v.Members {
		overwrite(&v.Members[i].Value)
	}
	z := api.Value{Kind: 9, B: true, N: -9, S: "z", At: -1}
	items, members := v.Items[:cap(v.Items)], v.Members[:cap(v.Members)]
	for i := range items {
		items[i] = z
	}
	for i := range members {
		members[i] = api.Member{Key: "z", Value: z, At: -1}
	}
}

// roomy returns a copy of a value whose lists have room behind their ends.
func roomy(v api.Value) api.Value {
	items := make([]api.Value, 0, len(v.Items)+2)
	for _, x := range v.Items {
		items = append(items, roomy(x))
	}
	members := make([]api.Member, 0, len(v.Members)+2)
	for _, m := range v.Members {
		members = append(members, api.Member{Key: m.Key, Value: roomy(m.Value), At: m.At})
	}
	v.Items, v.Members = items, members
	return v
}

// untouched reports whether nothing was written into the room of a roomy value.
func untouched(v api.Value) bool {
	return slices.EqualFunc(v.Items[:cap(v.Items)][len(v.Items):], make([]api.Value, 2), same) &&
		slices.EqualFunc(v.Members[:cap(v.Members)][len(v.Members):], make([]api.Member, 2), sameMember) &&
		!slices.ContainsFunc(v.Items, func(x api.Value) bool { return !untouched(x) }) &&
		!slices.ContainsFunc(v.Members, func(m api.Member) bool { return !untouched(m.Value) })
}

// wantOwn checks that results of a constructor share no memory with its arguments, which are those of a value, or with each other.
func wantOwn(t *testing.T, v api.Value, construct func(api.Value) api.Value) {
	t.Helper()
	arguments := roomy(v)
	before := clone(v)
	want := clone(construct(clone(v)))
	first, second := construct(arguments), construct(arguments)
	first.Items, first.Members = append(first.Items, null()), append(first.Members, api.Member{Key: "z"})
	overwrite(&first)
	if !same(arguments, before) || !untouched(arguments) || !same(second, want) {
		t.Errorf("%s became %s, with %s instead of %s", show(before), show(arguments), show(second), show(want))
	}
	overwrite(&arguments)
	if !same(second, want) {
		t.Errorf("%s became %s", show(want), show(second))
	}
}

// P12.1: a result is not changed with its arguments or another result, nor the other way round.
func TestSharesNothing(t *testing.T) {
	values := append(pool(), wrap(100, "[{", strange(9)), array(sample(), strange(4), sample()), object(member("a", sample()), member("a", strange(5)), member("b", sample())))
	for _, v := range values {
		wantOwn(t, v, func(v api.Value) api.Value { return jsonwrite.Array(v.Items...) })
		wantOwn(t, v, func(v api.Value) api.Value { return jsonwrite.Object(v.Members...) })
		wantOwn(t, v, func(v api.Value) api.Value { return jsonwrite.Member("a", v).Value })
		wantOwn(t, v, func(v api.Value) api.Value { return jsonwrite.Array(v, v) })
		wantOwn(t, v, func(v api.Value) api.Value { return jsonwrite.Object(jsonwrite.Member("a", v), api.Member{Value: v}) })
	}
	// Two arguments may share memory, but not what is in the result.
	shared := array(str("x"), sample())
	want := clone(shared)
	items := jsonwrite.Array(shared, shared, shared).Items
	members := jsonwrite.Object(api.Member{Value: shared}, api.Member{Value: shared}).Members
	overwrite(&items[1])
	overwrite(&members[0].Value)
	if !same(items[0], want) || !same(items[2], want) || !same(members[1].Value, want) || !same(shared, want) {
		t.Error("the parts share memory")
	}
}

// P12.1: the elements of slices that are changed after the calls, and those of results.
func TestChangesAfterwards(t *testing.T) {
	items := []api.Value{jsonwrite.Int(1), jsonwrite.Array(jsonwrite.Int(2))}
	members := []api.Member{jsonwrite.Member("a", jsonwrite.Int(3)), jsonwrite.Member("b", items[1])}
	a, o, m := jsonwrite.Array(items...), jsonwrite.Object(members...), jsonwrite.Member("c", items[1])
	items[0].N, items[1].Items[0].N = 8, 9
	members[0].Key, members[0].Value.N, members[1].Value.Items[0].N = "z", 8, 9
	wantText(t, a, "[1,[2]]")
	wantText(t, o, `{"a":3,"b":[2]}`)
	wantText(t, jsonwrite.Object(m), `{"c":[2]}`)
	a.Items[0], a.Items[1].Items[0] = jsonwrite.Null(), jsonwrite.Null()
	o.Members[1].Key, o.Members[1].Value.Items[0] = "y", jsonwrite.Null()
	m.Value.Items[0] = jsonwrite.Null()
	wantText(t, jsonwrite.Array(items...), "[8,[9]]")
	wantText(t, jsonwrite.Object(members...), `{"z":8,"b":[9]}`)
}

// P12.2, P12.3: the texts of ordinary values.
func TestWrite(t *testing.T) {
	n, one, x := jsonwrite.Null(), jsonwrite.Int(1), jsonwrite.String("x")
	a, b := jsonwrite.Member("a", one), jsonwrite.Member("b", x)
	wantText(t, n, "null")
	wantText(t, api.Value{}, "null")
	wantText(t, jsonwrite.Bool(true), "true")
	wantText(t, jsonwrite.Bool(false), "false")
	wantText(t, x, `"x"`)
	wantText(t, jsonwrite.String(""), `""`)
	wantText(t, jsonwrite.Array(), "[]")
	wantText(t, jsonwrite.Array(one), "[1]")
	wantText(t, jsonwrite.Array(one, n), "[1,null]")
	wantText(t, jsonwrite.Array(n, x, jsonwrite.Bool(true), jsonwrite.Bool(false), one), `[null,"x",true,false,1]`)
	wantText(t, jsonwrite.Array(one, one, one), "[1,1,1]")
	wantText(t, jsonwrite.Object(), "{}")
	wantText(t, jsonwrite.Object(a), `{"a":1}`)
	wantText(t, jsonwrite.Object(a, b), `{"a":1,"b":"x"}`)
	wantText(t, jsonwrite.Object(b, a), `{"b":"x","a":1}`)
	wantText(t, jsonwrite.Object(jsonwrite.Member("", n)), `{"":null}`)
	wantText(t, jsonwrite.Array(jsonwrite.Array()), "[[]]")
	wantText(t, jsonwrite.Array(jsonwrite.Object()), "[{}]")
	wantText(t, jsonwrite.Array(jsonwrite.Array(), jsonwrite.Array(one), jsonwrite.Object(a), jsonwrite.Object()), `[[],[1],{"a":1},{}]`)
	wantText(t, jsonwrite.Object(jsonwrite.Member("a", jsonwrite.Object()), jsonwrite.Member("b", jsonwrite.Array())), `{"a":{},"b":[]}`)
	wantText(t, jsonwrite.Object(jsonwrite.Member("a", jsonwrite.Object(a, b)), jsonwrite.Member("b", jsonwrite.Array(one, jsonwrite.Object(b)))), `{"a":{"a":1,"b":"x"},"b":[1,{"b":"x"}]}`)
	wantText(t, sample(), `{"a":[-1,null,true,"x",{"a":[null,[]],"\n":{},"é":"\\"},[{"a":[null,[]],"\n":{},"é":"\\"},false]],"":"\"","b":{"a":0,"c":[[[],-9223372036854775808]]}}`)
}

// The chapter's examples.
func TestExamples(t *testing.T) {
	n := jsonwrite.Null()
	wantText(t, jsonwrite.Object(jsonwrite.Member("a", jsonwrite.Array(jsonwrite.Int(-1), n)), jsonwrite.Member("", jsonwrite.String("x"))), `{"a":[-1,null],"":"x"}`)
	wantInvalid(t, jsonwrite.Object(jsonwrite.Member("a", n), jsonwrite.Member("a", n)))
	wantInvalid(t, jsonwrite.String("\xFF"))
}

// P12.3: numbers in decimal.
func TestNumbers(t *testing.T) {
	for n, want := range map[int64]string{0: "0", 1: "1", -1: "-1", 7: "7", 10: "10", -10: "-10", 100: "100", -999: "-999", 1000000: "1000000", 1 << 31: "2147483648", -1 << 31: "-2147483648", 1 << 32: "4294967296", 1<<53 + 1: "9007199254740993", 1e18: "1000000000000000000", math.MaxInt64: "9223372036854775807", math.MaxInt64 - 1: "9223372036854775806", math.MinInt64: "-9223372036854775808", math.MinInt64 + 1: "-9223372036854775807"} {
		wantText(t, jsonwrite.Int(n), want)
		wantText(t, jsonwrite.Array(jsonwrite.Int(n), jsonwrite.Int(n)), "["+want+","+want+"]")
		wantText(t, jsonwrite.Object(jsonwrite.Member("a", jsonwrite.Int(n))), `{"a":`+want+"}")
	}
	for i := range 64 {
		for d := int64(-2); d <= 2; d++ {
			wantEverywhere(t, integer(1<<i+d), true)
			compare(t, integer(-1<<i+d))
		}
	}
	for n := int64(-1200); n <= 1200; n++ {
		compare(t, integer(n))
	}
}

// P12.3: what is escaped in strings and in keys, and what is not.
func TestEscapes(t *testing.T) {
	for s, want := range map[string]string{
		"\"": `\"`, "\\": `\\`, "\b": `\b`, "\t": `\t`, "\n": `\n`, "\f": `\f`, "\r": `\r`, "\x00": `\u0000`, "\x01": `\u0001`, "\x07": `\u0007`, "\v": `\u000b`, "\x0E": `\u000e`, "\x0F": `\u000f`, "\x10": `\u0010`, "\x1B": `\u001b`, "\x1F": `\u001f`,
		" ": " ", "/": "/", "'": "'", "<": "<", ">": ">", "&": "&", "\x7F": "\x7F", "\u0080": "\u0080", "é": "é", "\u07FF": "\u07FF", "\u0800": "\u0800", "€": "€", "\u2028": "\u2028", "\u2029": "\u2029", "\uFEFF": "\uFEFF", "\uFFFD": "\uFFFD", "\uFFFF": "\uFFFF", "\U00010000": "\U00010000", "😀": "😀", "\U0010FFFF": "\U0010FFFF",
		"\\n": `\\n`, "\\u0041": `\\u0041`, "\r\n": `\r\n`, "\\\"": `\\\"`, "\",\"": `\",\"`, "\":": `\":`,
	} {
		for _, around := range [][2]string{{"", ""}, {"x", ""}, {"", "x"}, {"x", "x"}, {" ", "é"}, {"\"", "\\"}} {
			inside := around[0] + s + around[1]
			literal := quoted(around[0])
			literal = literal[:len(literal)-1] + want + quoted(around[1])[1:]
			wantText(t, jsonwrite.String(inside), literal)
			wantText(t, jsonwrite.Array(jsonwrite.String(inside), jsonwrite.String(s)), "["+literal+`,"`+want+`"]`)
			wantText(t, jsonwrite.Object(jsonwrite.Member(inside, jsonwrite.String(inside)), jsonwrite.Member(inside+"k", jsonwrite.Object(jsonwrite.Member(s, jsonwrite.Null())))), "{"+literal+":"+literal+","+literal[:len(literal)-1]+`k":{"`+want+`":null}}`)
		}
	}
}

// P12.2, P12.3: each byte that a canonical JSON string escapes, and each rune, in strings and in keys.
func TestEveryRune(t *testing.T) {
	check := func(r rune) {
		s := string(r)
		if !compare(t, array(str(s), object(member(s, str("x"+s+s)), member("x"+s, null())))) {
			t.Errorf("%+q is not valid", s)
		}
	}
	for r := range rune(0x3100) {
		check(r)
	}
	for _, bound := range []rune{0xD7FF - 2, 0xE000 + 2, 0xFFFF - 2, 0x10000 + 2, 0x3FFFF, 0x40000, 0xFFFFF, 0x100000, 0x10FFFF - 2} {
		for r := bound - 2; r <= bound+2; r++ {
			check(r)
		}
	}
	for r := rune(0x3100); r <= 0x10FFFF; r += 97 {
		if r < 0xD800 || r > 0xDFFF {
			check(r)
		}
	}
}

// P12.2: all strings of one byte and of two bytes, in strings and in keys.
func TestEveryByte(t *testing.T) {
	check := func(s string) {
		want := isUTF8(s)
		if compare(t, str(s)) != want || compare(t, object(member("a", null()), member(s, null()))) != (want && s != "a") {
			t.Errorf("%q: valid is %v", s, !want)
		}
	}
	for i := range 256 {
		check(string([]byte{byte(i)}))
		for j := range 256 {
			check(string([]byte{byte(i), byte(j)}))
		}
	}
}

// P12.2: values with valid parts are valid, with these parts anywhere in them.
func TestValid(t *testing.T) {
	for _, v := range []api.Value{null(), boolean(true), boolean(false), integer(0), array(), object(), sample(), array(array(), array()), array(object(), object()), object(member("a", array()))} {
		wantEverywhere(t, v, true)
		v.Items, v.Members = append([]api.Value{}, v.Items...), append([]api.Member{}, v.Members...)
		wantEverywhere(t, v, true)
	}
	for _, s := range goodStrings {
		wantEverywhere(t, str(s), true)
		wantEverywhere(t, object(member(s, str(s))), true)
		wantEverywhere(t, object(member("first", null()), member(s+"1", array(str(s))), member(s, object(member(s, null()))), member("last", null())), true)
	}
}

// P12.2: kinds below the least and above the greatest, whatever fields the values have.
func TestWrongKinds(t *testing.T) {
	for _, kind := range wrongKinds {
		wantEverywhere(t, api.Value{Kind: kind}, false)
		for _, v := range []api.Value{boolean(true), integer(1), str("x"), array(null()), object(member("a", null())), strange(0), sample()} {
			v.Kind = kind
			wantEverywhere(t, v, false)
		}
	}
}

// changes set a field to something other than zero or empty, by the letters of the fields.
var changes = map[string][]func(*api.Value){
	"B": {func(v *api.Value) { v.B = true }},
	"N": {func(v *api.Value) { v.N = 1 }, func(v *api.Value) { v.N = -1 }, func(v *api.Value) { v.N = 1 << 32 }, func(v *api.Value) { v.N = math.MinInt64 }, func(v *api.Value) { v.N = math.MaxInt64 }},
	"S": {func(v *api.Value) { v.S = "x" }, func(v *api.Value) { v.S = " " }, func(v *api.Value) { v.S = "\x00" }, func(v *api.Value) { v.S = "null" }},
	"I": {func(v *api.Value) { v.Items = []api.Value{{}} }, func(v *api.Value) { v.Items = []api.Value{str("x"), array()} }, func(v *api.Value) { v.Items = []api.Value{{At: 5}} }},
	"M": {func(v *api.Value) { v.Members = []api.Member{{}} }, func(v *api.Value) { v.Members = []api.Member{member("a", null()), member("b", array())} }, func(v *api.Value) { v.Members = []api.Member{{At: 5}} }},
}

// P12.2: each field that a kind uses or does not use, set alone, in values of each kind anywhere in other ones.
func TestFields(t *testing.T) {
	for _, sound := range []api.Value{null(), boolean(false), boolean(true), integer(0), integer(-7), str(""), str("x"), array(), array(null()), array(sample(), str("x")), object(), object(member("a", null())), sample()} {
		wantEverywhere(t, sound, true)
		for letter, all := range changes {
			for _, change := range all {
				v := clone(sound)
				change(&v)
				wantEverywhere(t, v, used[v.Kind] == letter)
			}
		}
		wantEverywhere(t, displaced(sound, math.MinInt), true)
	}
	for kind := range used {
		wantEverywhere(t, strange(kind), false)
	}
}

// wrongStrings returns strings that are not valid UTF-8 at the beginning, in the middle and at the end.
func wrongStrings() []string {
	var out []string
	for _, b := range wrongBytes {
		out = append(out, b, b+"x", "x"+b, "x"+b+"x", "é"+b, b+"\n", "\""+b+"€", "\uFFFD"+b, b+b)
	}
	return append(out, strings.Repeat("x", 1000)+"\xFF", "\xFF"+strings.Repeat("x", 1000))
}

// P12.2: strings and keys that are not valid UTF-8, anywhere in a value.
func TestWrongStrings(t *testing.T) {
	for _, s := range wrongStrings() {
		wantEverywhere(t, str(s), false)
		wantEverywhere(t, object(member(s, null())), false)
		for at := range 4 {
			v := object(member("a", null()), member("", array()), member("c", str("x")))
			v.Members = slices.Insert(v.Members, at, member(s, integer(1)))
			wantEverywhere(t, v, false)
			w := array(str("a"), null(), str("c"))
			w.Items = slices.Insert(w.Items, at, str(s))
			wantEverywhere(t, w, false)
		}
	}
}

// P12.2: keys that are equal, beside each other and apart.
func TestEqualKeys(t *testing.T) {
	var members []api.Member
	for _, s := range goodStrings {
		members = append(members, member(s, null()))
	}
	wantEverywhere(t, object(members...), true)
	for i, s := range goodStrings {
		for _, v := range []api.Value{null(), str(s), array()} {
			m := api.Member{Key: s, Value: v, At: 9}
			wantInvalid(t, object(append(slices.Clone(members), m)...))
			wantInvalid(t, object(append([]api.Member{m}, members...)...))
			wantInvalid(t, object(slices.Insert(slices.Clone(members), i, m)...))
			wantEverywhere(t, object(m, m), false)
			wantEverywhere(t, object(member(s, null()), m), false)
			wantEverywhere(t, object(m, member("other", null()), m), false)
			wantEverywhere(t, object(member("other", null()), m, member("another", null()), member("x", array()), m, member("last", null())), false)
		}
	}
	for _, c := range [][]string{{"a", "a"}, {"a", "b", "a"}, {"b", "a", "a"}, {"a", "a", "b"}, {"a", "b", "b", "c"}, {"a", "b", "c", "d", "b"}, {"a", "b", "c", "c"}, {"", ""}, {"a", "", "b", ""}} {
		var list []api.Member
		for i, key := range c {
			list = append(list, member(key, integer(int64(i))))
		}
		wantEverywhere(t, object(list...), false)
	}
}

// P12.2: keys that are equal in different objects, or to strings, and keys that differ a little.
func TestDifferentKeys(t *testing.T) {
	for _, s := range []string{
		`{"a":{"a":1}}`, `{"a":{"a":{"a":{"a":[]}}}}`, `[{"a":1},{"a":1}]`, `[{"a":1},{"a":1},{"a":{}}]`, `{"a":{"b":1},"b":{"a":1}}`, `{"b":1,"a":{"b":1},"c":{"b":1}}`, `{"a":[{"a":1},{"a":1}],"b":{"a":1}}`, `{"a":{"b":1},"b":1}`, `{"a":{"":1},"":1}`, `{"a":"a"}`, `{"a":"b","b":"a"}`, `["a","a"]`, `{"a":["a","a"],"b":"a"}`,
		`{"a":1,"A":2}`, `{"a":1,"a ":2," a":3}`, `{"a":1,"aa":2,"":3}`, `{"a":1,"\u0000a":2,"a\u0000":3}`, "{\"é\":1,\"e\u0301\":2,\"e\":3}", `{"\n":1,"\\n":2,"n":3}`, `{"\\u0061":1,"a":2}`, `{"/":1,"\\/":2}`, `{"1":1,"01":2,"1.0":3}`, `{"null":null,"":null}`, `{"😀":1,"😁":2}`, `{"ſ":1,"s":2,"S":3}`,
	} {
		v, _, e := jsonvalue.Parse(s)
		if e != api.OK {
			t.Fatalf("Parse(%q): %v", s, e)
		}
		wantText(t, v, s)
		wantEverywhere(t, jsonvalue.Strip(v), true)
	}
	// An object within another one neither takes its keys nor gives it its own.
	a := member("a", null())
	wantEverywhere(t, object(member("b", object(a)), a), true)
	wantEverywhere(t, object(member("b", object(a)), a, member("c", object(a)), member("d", array(object(a), object(a)))), true)
	wantEverywhere(t, object(member("b", object(a)), a, member("c", object(a)), a), false)
	wantEverywhere(t, object(member("b", object(a, a)), a), false)
}

// patterns are the kinds of arrays and objects that are within each other, from the outermost one on.
var patterns = []string{"[", "{", "[{", "{[", "[[{", "{{["}

// P12.2: values of each depth up to the greatest one, and deeper ones, with a number, an empty array and other values innermost.
func TestDepths(t *testing.T) {
	for _, kinds := range patterns {
		for _, inside := range []api.Value{integer(1), array(), object(), null(), str("[[")} {
			for depth := 1; depth <= most; depth++ {
				v := wrap(depth-1, kinds, inside)
				if !compare(t, v) || jsonvalue.Depth(v) != depth {
					t.Errorf("depth %d of %q: %s", depth, kinds, show(v))
				}
			}
			for _, depth := range []int{101, 102, 103, 127, 128, 129, 200, 255, 256, 257, 300, 1000} {
				wantInvalid(t, wrap(depth-1, kinds, inside))
			}
		}
		// What is innermost counts as well, with its own depth.
		for _, c := range []struct {
			inside api.Value
			depth  int
		}{{array(null()), 2}, {object(member("a", str(""))), 2}, {array(null(), array(), boolean(true)), 2}, {array(null(), object(member("a", array())), null()), 3}, {object(member("a", null()), member("b", array(null()))), 3}, {sample(), jsonvalue.Depth(sample())}} {
			if !compare(t, wrap(most-c.depth, kinds, c.inside)) {
				t.Errorf("%s is not valid at the last depth", show(c.inside))
			}
			wantInvalid(t, wrap(most-c.depth+1, kinds, c.inside))
		}
	}
	wantText(t, wrap(99, "[", integer(1)), strings.Repeat("[", 99)+"1"+strings.Repeat("]", 99))
	wantText(t, wrap(99, "[", array()), strings.Repeat("[", 100)+strings.Repeat("]", 100))
	wantText(t, wrap(99, "{", integer(1)), strings.Repeat(`{"k":`, 99)+"1"+strings.Repeat("}", 99))
	wantText(t, wrap(99, "{", object()), strings.Repeat(`{"k":`, 99)+"{}"+strings.Repeat("}", 99))
}

// P12.2: a value that is too deep, beside others that are not, and many values at the last depth.
func TestDeepBesideFlat(t *testing.T) {
	one := integer(1)
	for _, kinds := range patterns {
		last, over := wrap(98, kinds, one), wrap(99, kinds, one)
		for _, deep := range []api.Value{last, over} {
			valid := jsonvalue.Depth(deep) < most
			for _, v := range []api.Value{
				array(one, deep), array(deep, one), array(array(), deep, array()), array(last, deep), array(deep, last), array(last, last, deep, last),
				object(member("a", one), member("b", deep)), object(member("a", deep), member("b", one)), object(member("a", last), member("b", deep), member("c", last)),
			} {
				if compare(t, v) != valid {
					t.Errorf("%s: valid is %v", show(v), !valid)
				}
			}
		}
		if v := array(slices.Repeat([]api.Value{last}, 20)...); !compare(t, v) {
			t.Error("many deep values are not valid")
		}
	}
	// Depth and faults of other kinds in the same value.
	wantInvalid(t, wrap(99, "[", api.Value{Kind: 6}))
	wantInvalid(t, wrap(99, "{", str("\xFF")))
	wantInvalid(t, wrap(98, "[{", object(member("a", null()), member("a", null()))))
	wantInvalid(t, wrap(200, "[{", strange(9)))
}

// P12.2, P12.3: offsets do not matter, whatever they are.
func TestOffsetsAreIgnored(t *testing.T) {
	for _, v := range append(pool(), wrap(99, "[{", null()), wrap(100, "[{", null())) {
		want, wantE := jsonwrite.Write(v)
		for _, by := range []int{1, -1, 7, math.MaxInt, math.MinInt} {
			w := displaced(v, by)
			if s, e := jsonwrite.Write(w); s != want || e != wantE || jsonwrite.Check(w) != wantE {
				t.Errorf("Write(%s) = %.1000q, %v; want %.1000q, %v", show(w), s, e, want, wantE)
			}
			compare(t, w)
		}
	}
}

// P12.3: members in each order.
func TestOrders(t *testing.T) {
	members := []api.Member{member("a", integer(1)), member("", null()), member("b", array(object())), member("A", str("a"))}
	texts := []string{`"a":1`, `"":null`, `"b":[{}]`, `"A":"a"`}
	d := documents{}
	every(nil, []int{0, 1, 2, 3}, 4, func(order []int) {
		var list []api.Member
		var parts []string
		for _, i := range order {
			list = append(list, members[i])
			parts = append(parts, texts[i])
		}
		v := jsonwrite.Object(list...)
		if len(slices.Compact(slices.Sorted(slices.Values(order)))) < len(list) {
			wantInvalid(t, v)
			return
		}
		wantText(t, v, "{"+strings.Join(parts, ",")+"}")
		d.add(t, v)
	})
	if len(d) != 1+4+12+24+24 {
		t.Errorf("%d texts", len(d))
	}
}

// documents has valid values by their canonical texts.
type documents map[string]api.Value

// add compares a value, and checks that no other one has its text.
func (d documents) add(t *testing.T, v api.Value) {
	t.Helper()
	if !compare(t, v) {
		return
	}
	s, _ := jsonwrite.Write(v)
	if other, found := d[s]; found && !jsonvalue.Equal(v, other) {
		t.Errorf("%s and %s have the text %.1000q", show(v), show(other), s)
	}
	d[s] = v
}

// P12.2 to P12.4: all small values of awkward parts.
func TestEverySmallValue(t *testing.T) {
	leaves := []api.Value{null(), boolean(true), boolean(false), integer(0), integer(-1), str(""), str("null"), str("[]"), str(`","`), str("0"), array(), object(), {Kind: 6}, {B: true}, {Kind: api.Int, At: 7}}
	keys := []string{"", "a", "b", `a":0,"b`}
	d := documents{}
	var middle []api.Value
	every(nil, leaves, 3, func(items []api.Value) {
		d.add(t, array(items...))
		if len(items) == 2 && items[0].Kind != 1 {
			middle = append(middle, array(items...))
		}
		every(nil, keys, len(items), func(names []string) {
			if len(names) != len(items) || len(items) > 2 {
				return
			}
			var members []api.Member
			for i, key := range names {
				members = append(members, member(key, items[i]))
			}
			d.add(t, object(members...))
			if len(items) == 1 {
				middle = append(middle, object(members...))
			}
		})
	})
	every(nil, middle, 2, func(items []api.Value) {
		d.add(t, array(items...))
		if len(items) == 1 {
			d.add(t, object(member("a", items[0])))
			d.add(t, array(null(), array(items...), object(member("b", items[0]), member("a", null()))))
		}
	})
	if len(d) < 20000 {
		t.Errorf("only %d of the values are valid", len(d))
	}
}

// variants returns values that differ from a value in one field each, or in the number or the order of items or of members.
func variants(v api.Value) []api.Value {
	var out []api.Value
	vary := func(change func(v *api.Value)) {
		w := clone(v)
		change(&w)
		out = append(out, w)
	}
	for kind := -1; kind <= 6; kind++ {
		vary(func(w *api.Value) { w.Kind = kind })
	}
	vary(func(w *api.Value) { w.B = !w.B })
	vary(func(w *api.Value) { w.N++ })
	vary(func(w *api.Value) { w.N = -w.N })
	vary(func(w *api.Value) { w.N ^= math.MinInt64 })
	for _, s := range []string{"v", "\"", "\\", "\x00", "\xFF"} {
		vary(func(w *api.Value) { w.S += s })
		vary(func(w *api.Value) { w.Items = append(w.Items, str(s)) })
		vary(func(w *api.Value) { w.Members = append(w.Members, member(s, null())) })
		for i := range v.Members {
			vary(func(w *api.Value) { w.Members[i].Key += s })
		}
	}
	vary(func(w *api.Value) { w.Items = slices.Insert(w.Items, 0, null()) })
	vary(func(w *api.Value) { w.Members = slices.Insert(w.Members, 0, member("z", null())) })
	vary(func(w *api.Value) { *w = array(v) })
	vary(func(w *api.Value) { *w = object(member("", v)) })
	for i, x := range v.Items {
		for _, y := range variants(x) {
			vary(func(w *api.Value) { w.Items[i] = y })
		}
		vary(func(w *api.Value) { w.Items = slices.Delete(w.Items, i, i+1) })
		vary(func(w *api.Value) { w.Items[0], w.Items[i] = w.Items[i], w.Items[0] })
		vary(func(w *api.Value) { w.Items = slices.Insert(w.Items, i, clone(x)) })
	}
	for i, m := range v.Members {
		for _, y := range variants(m.Value) {
			vary(func(w *api.Value) { w.Members[i].Value = y })
		}
		vary(func(w *api.Value) { w.Members = slices.Delete(w.Members, i, i+1) })
		vary(func(w *api.Value) { w.Members[0], w.Members[i] = w.Members[i], w.Members[0] })
		vary(func(w *api.Value) { w.Members[0].Key, w.Members[i].Key = w.Members[i].Key, w.Members[0].Key })
		vary(func(w *api.Value) { w.Members = slices.Insert(w.Members, i, member(m.Key, m.Value)) })
		vary(func(w *api.Value) { w.Members = slices.Insert(w.Members, i, member(m.Key+"2", m.Value)) })
	}
	return out
}

// P12.2 to P12.4: values that differ a little, at the root and deep within.
func TestVariants(t *testing.T) {
	d := documents{}
	for _, v := range append(pool(), sample(), array(str("a,b"), str("a"), str("b")), object(member("a", str("b")), member("a:b", str(""))), array(array(null(), null()), array(null())), array(array(null()), array(null(), null()))) {
		d.add(t, v)
		for _, w := range variants(v) {
			d.add(t, w)
			d.add(t, displaced(w, 3))
		}
	}
	// Two changes, of which one may be within the other, or undo it.
	for _, v := range variants(array(null(), object(member("a", integer(1)), member("b", array(str("x")))))) {
		for _, w := range variants(v) {
			d.add(t, w)
		}
	}
	if len(d) < 2500 {
		t.Errorf("only %d texts", len(d))
	}
}

// P12.4: pairs of values that are close to each other, written out.
func TestDifferentTexts(t *testing.T) {
	a, b, n := str("a"), str("b"), null()
	for _, c := range [][2]api.Value{
		{n, str("null")}, {n, boolean(false)}, {n, integer(0)}, {n, str("")}, {n, array()}, {n, object()}, {array(), object()}, {array(), array(n)}, {array(), array(array())}, {array(), str("[]")}, {integer(1), str("1")}, {integer(1), integer(-1)}, {integer(1), integer(10)}, {integer(math.MaxInt64), integer(math.MinInt64)}, {boolean(true), boolean(false)}, {boolean(true), str("true")},
		{a, b}, {a, str("A")}, {a, str("")}, {a, str("aa")}, {a, str("\"a\"")}, {str("\n"), str("\\n")}, {str("\x00"), str("\\u0000")}, {str("/"), str("\\/")}, {str("é"), str("e\u0301")}, {str("\uFFFD"), str("\uFFFE")},
		{array(a, b), array(b, a)}, {array(a, b), array(str("a,b"))}, {array(a, b), array(str(`a","b`))}, {array(a), a}, {array(a), array(a, a)}, {array(array(a), b), array(array(a, b))}, {array(array(), array()), array(array(array()))}, {array(integer(1), integer(2)), array(integer(12))}, {array(a, n), array(a)},
		{object(member("a", b)), object(member("b", a))}, {object(member("a", n)), object()}, {object(member("a", n)), object(member("", n))}, {object(member("a", n)), array(n)}, {object(member("a", n), member("b", n)), object(member("b", n), member("a", n))}, {object(member("a", n), member("b", n)), object(member(`a":null,"b`, n))}, {object(member("a", object(member("b", n)))), object(member("a", object()), member("b", n))},
	} {
		for range 5 {
			d := documents{}
			d.add(t, c[0])
			d.add(t, c[1])
			d.add(t, displaced(c[0], 5))
			d.add(t, displaced(c[1], -5))
			if len(d) != 2 {
				t.Errorf("%s and %s have %d texts", show(c[0]), show(c[1]), len(d))
			}
			c[0], c[1] = array(n, object(member("k", c[0]))), array(n, object(member("k", c[1])))
		}
	}
}

// P12.2 to P12.4: drawn values, which are built by the functions of the package.
func TestDrawnValues(t *testing.T) {
	r := rand.New(rand.NewPCG(12, 4))
	draw := func() string { return goodStrings[r.IntN(len(goodStrings)-1)] }
	var value func(depth int) api.Value
	value = func(depth int) api.Value {
		switch n := r.IntN(8); {
		case n == 0:
			return jsonwrite.Null()
		case n == 1:
			return jsonwrite.Bool(r.IntN(2) == 0)
		case n == 2:
			return jsonwrite.Int(int64(r.Uint64()) >> r.IntN(64))
		case n == 3 || depth == 0:
			return jsonwrite.String(draw() + draw())
		case n < 6:
			var items []api.Value
			for range r.IntN(5) {
				items = append(items, value(depth-1))
			}
			return jsonwrite.Array(items...)
		}
		var members []api.Member
		for i := range r.IntN(5) {
			members = append(members, jsonwrite.Member(draw()+strconv.Itoa(i), value(depth-1)))
		}
		return jsonwrite.Object(members...)
	}
	d := documents{}
	for range 5000 {
		v := value(5)
		d.add(t, v)
		if !compare(t, v) {
			t.Fatalf("%s is not valid", show(v))
		}
	}
	if len(d) < 2500 {
		t.Errorf("only %d texts", len(d))
	}
}

// parsed are texts that are not canonical, and their canonical texts.
var parsed = map[string]string{
	" null ": "null", "\ttrue\n": "true", "\r\nfalse": "false", "-0": "0", "\xEF\xBB\xBF1": "1", "\xEF\xBB\xBF [ ] ": "[]", "[1 , 2]": "[1,2]", "{ }": "{}", "{\"a\" :\n1}": `{"a":1}`,
	`"\u0041\ud83d\ude00"`: `"A😀"`, `"\/"`: `"/"`, `"\u000a\u0008\u001F\u007f"`: "\"\\n\\b\\u001f\x7F\"", `"\u0022\u005C"`: `"\"\\"`, `{"\u0061":"\u00e9","\u00E9":"\u2028"}`: "{\"a\":\"é\",\"é\":\"\u2028\"}",
	` { "a" : [ 1 , -20 ] , "b" : { } } `: `{"a":[1,-20],"b":{}}`, `[[ ],[{"":[-0, null]}]]`: `[[],[{"":[0,null]}]]`, "{\"b\":1,\n \"a\":2}": `{"b":1,"a":2}`,
}

// P12.4: the value of each text is valid, and parsing its canonical text yields it again.
func TestParsedTexts(t *testing.T) {
	for s, want := range parsed {
		v, _, e := jsonvalue.Parse(s)
		if e != api.OK {
			t.Fatalf("Parse(%q): %v", s, e)
		}
		wantText(t, v, want)
		wantText(t, jsonvalue.Strip(v), want)
	}
}

// P12.4: the values of all short texts of awkward parts.
func TestEveryParsedText(t *testing.T) {
	accepted := 0
	every(nil, []string{"[", "]", "{", "}", ",", `"a":`, `"\u0061":`, `"b"`, ` `, "-1", "null"}, 6, func(parts []string) {
		v, _, e := jsonvalue.Parse(strings.Join(parts, ""))
		if e != api.OK {
			return
		}
		accepted++
		if !compare(t, v) {
			t.Errorf("the value of %q is not valid", strings.Join(parts, ""))
		}
	})
	if accepted < 500 {
		t.Errorf("only %d texts are accepted", accepted)
	}
}

// P12.4: deep texts. Layer 11 bounds the depth of arrays and objects only, so that it accepts a number, for example, within as many of them as it permits; the depth of that value is one too many.
func TestDeepTexts(t *testing.T) {
	for _, kinds := range patterns {
		for n := range most + 1 {
			for _, inside := range []api.Value{null(), integer(1), str("x"), array(), object()} {
				want := wrap(n, kinds, inside)
				v, _, e := jsonvalue.Parse(text(want))
				if n == most && inside.Kind >= api.Array {
					if e != api.ErrDepth {
						t.Errorf("Parse(%q): %v", text(want), e)
					}
					continue
				}
				if e != api.OK || !jsonvalue.Equal(v, want) {
					t.Fatalf("Parse(%q): %v", text(want), e)
				}
				if compare(t, v) != (n < most) {
					t.Errorf("%s: valid is %v", show(v), n == most)
				}
			}
		}
	}
}

// P12.3: package json reads the same values.
func TestPackageJSON(t *testing.T) {
	for _, s := range goodStrings {
		v := jsonwrite.Object(jsonwrite.Member(s, jsonwrite.Array(jsonwrite.String(s), jsonwrite.Int(7), jsonwrite.Null(), jsonwrite.Bool(true), jsonwrite.Array(), jsonwrite.Object())))
		out, e := jsonwrite.Write(v)
		var got map[string][]any
		err := json.Unmarshal([]byte(out), &got)
		if want := (map[string][]any{s: {s, 7.0, nil, true, []any{}, map[string]any{}}}); e != api.OK || err != nil || fmt.Sprintf("%#v", got) != fmt.Sprintf("%#v", want) {
			t.Errorf("Write(%s) = %q, %v, %v", show(v), out, e, err)
		}
	}
	for _, v := range variants(sample()) {
		if s, e := jsonwrite.Write(v); e == api.OK && !json.Valid([]byte(s)) {
			t.Errorf("Write(%s) = %q", show(v), s)
		}
	}
}

// Rule 4: Check and Write change nothing in a value, and what is beyond the length of a list makes no difference.
func TestBeyondLists(t *testing.T) {
	for _, v := range append(variants(sample()), sample()) {
		argument := roomy(v)
		compare(t, argument)
		if !untouched(argument) {
			t.Errorf("%s was written behind its end", show(v))
		}
	}
	items := []api.Value{str("x"), str("\xFF"), {Kind: 9}}
	members := []api.Member{{Key: "a"}, {Key: "a"}, {Key: "\xFF"}}
	wantText(t, api.Value{Kind: api.Array, Items: items[:1], Members: members[:0]}, `["x"]`)
	wantText(t, api.Value{Kind: api.Object, Items: items[:0], Members: members[:1]}, `{"a":null}`)
	wantText(t, api.Value{Kind: api.Object, Members: members[1:2]}, `{"a":null}`)
	wantText(t, api.Value{Kind: api.Array, Items: items[:0]}, "[]")
	wantText(t, api.Value{Items: items[:0], Members: members[:0]}, "null")
	wantText(t, jsonwrite.Array(items[:1]...), `["x"]`)
	wantText(t, jsonwrite.Object(members[:1]...), `{"a":null}`)
}

// P1: long strings and keys.
func TestLongStrings(t *testing.T) {
	const count = 1 << 20
	for part, want := range map[string]string{"x": "x", "é": "é", "\n": `\n`, "\"": `\"`, "\x00": `\u0000`, "😀": "😀"} {
		s, literal := strings.Repeat(part, count), `"`+strings.Repeat(want, count)+`"`
		if got, e := jsonwrite.Write(jsonwrite.Object(jsonwrite.Member(s, jsonwrite.String(s)))); got != "{"+literal+":"+literal+"}" || e != api.OK {
			t.Errorf("the text of a long string of %q has %d bytes, %v", part, len(got), e)
		}
		for _, v := range []api.Value{str(s + "\xFF"), str("\x80" + s), object(member(s+"\xC3", null())), object(member(s, null()), member(s, null()))} {
			if got, e := jsonwrite.Write(v); got != "" || e != api.ErrInvalid || jsonwrite.Check(v) != e {
				t.Errorf("a wrong long string of %q: %d bytes, %v", part, len(got), e)
			}
		}
	}
}

// P1: arrays with very many items, and values that are wide on several depths.
func TestWideValues(t *testing.T) {
	const count = 1 << 16
	part := []api.Value{null(), integer(-7), str("x"), array(boolean(true)), object(member("a", object()))}
	v := jsonwrite.Array(slices.Repeat(part, count)...)
	inside := strings.Repeat(`,null,-7,"x",[true],{"a":{}}`, count)[1:]
	wantText(t, v, "["+inside+"]")
	wantText(t, jsonwrite.Object(jsonwrite.Member("a", v), jsonwrite.Member("b", v)), `{"a":[`+inside+`],"b":[`+inside+"]}")
	wantInvalid(t, jsonwrite.Array(append(v.Items, api.Value{B: true})...))
	wantInvalid(t, jsonwrite.Array(append([]api.Value{{Kind: 9}}, v.Items...)...))
	wantInvalid(t, jsonwrite.Array(jsonwrite.Null(), wrap(98, "[", v)))
	if got := jsonwrite.Array(v.Items...); !same(got, v) {
		t.Error("Array is wrong for many items")
	}
}

// P1: objects with very many members, where comparing each key with each other one would take too long.
func TestManyKeys(t *testing.T) {
	const count = 1 << 18
	var members []api.Member
	var out strings.Builder
	for i := range count {
		key := strconv.Itoa(i)
		members = append(members, jsonwrite.Member(key, jsonwrite.Int(int64(i))))
		out.WriteString(`,"` + key + `":` + key)
	}
	v := jsonwrite.Object(members...)
	if s, e := jsonwrite.Write(v); s != "{"+out.String()[1:]+"}" || e != api.OK || jsonwrite.Check(v) != e {
		t.Errorf("the text of many members has %d bytes, %v", len(s), e)
	}
	for _, key := range []string{"0", "1", "777", strconv.Itoa(count - 1)} {
		w := jsonwrite.Object(append(v.Members, jsonwrite.Member(key, jsonwrite.Null()))...)
		if s, e := jsonwrite.Write(w); s != "" || e != api.ErrInvalid || jsonwrite.Check(w) != e {
			t.Errorf("another member %s: %v", key, e)
		}
	}
}

// P1: values that are nested as deep as is permitted.
func TestDeepValues(t *testing.T) {
	const deep = 1 << 16
	for _, kinds := range patterns {
		v := wrap(deep-2, kinds, str("x"))
		a, o, m := jsonwrite.Array(null(), v), jsonwrite.Object(api.Member{Key: "a", Value: v}), jsonwrite.Member("a", v)
		if !same(a, api.Value{Kind: api.Array, Items: []api.Value{{}, v}}) || !same(o, api.Value{Kind: api.Object, Members: []api.Member{{Key: "a", Value: v}}}) || !sameMember(m, api.Member{Key: "a", Value: v}) {
			t.Errorf("a deep value of %q is not copied", kinds)
		}
		for _, w := range []api.Value{v, a, o, m.Value} {
			if s, e := jsonwrite.Write(w); s != "" || e != api.ErrInvalid || jsonwrite.Check(w) != e {
				t.Errorf("Write of a deep value of %q = %d bytes, %v", kinds, len(s), e)
			}
		}
	}
}

// P1, P2: calls at the same time do not influence each other.
func TestConcurrentCalls(t *testing.T) {
	values := append(variants(sample()), sample(), wrap(99, "[{", null()), wrap(100, "[{", null()))
	items := pool()
	want := array(items...)
	var wg sync.WaitGroup
	for range 4 {
		wg.Go(func() {
			for range 5 {
				for _, v := range values {
					compare(t, v)
				}
				if a, o := jsonwrite.Array(items...), jsonwrite.Object(jsonwrite.Member("a", want)); !same(a, want) || !same(o, object(member("a", want))) {
					t.Errorf("%s and %s", show(a), show(o))
				}
			}
		})
	}
	wg.Wait()
}

// FuzzWrite checks the promises on the values of arbitrary texts, and on values of arbitrary strings and numbers.
func FuzzWrite(f *testing.F) {
	for s := range parsed {
		f.Add(s, "a", int64(0))
	}
	for _, s := range append(wrongStrings(), goodStrings...) {
		f.Add("[]", s, int64(len(s)))
	}
	f.Fuzz(func(t *testing.T, document, s string, n int64) {
		if v, _, e := jsonvalue.Parse(document); e == api.OK && compare(t, v) != (jsonvalue.Depth(v) <= most) {
			t.Errorf("the value of %q", document)
		}
		compare(t, jsonwrite.Object(jsonwrite.Member(s, jsonwrite.Array(jsonwrite.Int(n), jsonwrite.String(s))), jsonwrite.Member("b", jsonwrite.Int(-n))))
		compare(t, api.Value{Kind: int(n), S: s})
		compare(t, api.Value{Kind: int(n % 8), N: n, Members: []api.Member{{Key: s}, {Key: "a"}}})
	})
}

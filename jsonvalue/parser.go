package jsonvalue

import (
	"strconv"
	"strings"

	"feedvault/api"
	"feedvault/jsonstring"
	"feedvault/text"
)

// mark is ignored at the beginning of a text.
const mark = "\xEF\xBB\xBF"

// numberBytes are the bytes of which a number is made, or what was meant as one.
const numberBytes = "0123456789+-.eE"

// parser is a place in a text. Its methods move it from left to right, and panic with the first fault.
type parser struct {
	s  string
	at int
}

// fault is an error at an offset.
type fault struct {
	at    int
	errno api.Errno
}

// fail leaves the parser, however deep the value is that it is reading.
func fail(at int, e api.Errno) { panic(fault{at, e}) }

// rest returns the text from here on.
func (p *parser) rest() string { return p.s[p.at:] }

// skipSpace moves behind white space.
func (p *parser) skipSpace() {
	for p.at < len(p.s) && text.IsSpace(p.s[p.at]) {
		p.at++
	}
}

// next moves to the next byte that is not white space, and returns it.
func (p *parser) next() byte {
	p.skipSpace()
	if p.at == len(p.s) {
		fail(p.at, api.ErrEOF)
	}
	return p.s[p.at]
}

// skip moves behind a byte, if it is the next one, and reports whether it is.
func (p *parser) skip(c byte) bool {
	found := p.next() == c
	if found {
		p.at++
	}
	return found
}

// require moves behind a byte, which has to be the next one.
func (p *parser) require(c byte) {
	if !p.skip(c) {
		fail(p.at, api.ErrSyntax)
	}
}

// word moves behind a word, if it starts here, and reports whether it does.
func (p *parser) word(w string) bool {
	found := strings.HasPrefix(p.rest(), w)
	if found {
		p.at += len(w)
	}
	return found
}

// text reads the whole text.
func (p *parser) text() api.Value {
	p.word(mark)
	v := p.value(1)
	p.skipSpace()
	if p.at < len(p.s) {
		fail(p.at, api.ErrTrailing)
	}
	return v
}

// value reads a value of a depth.
func (p *parser) value(depth int) api.Value {
	c := p.next()
	v := api.Value{At: p.at}
	switch {
	case p.word("null"):
		v.Kind = api.Null
	case p.word("true"):
		v.Kind, v.B = api.Bool, true
	case p.word("false"):
		v.Kind = api.Bool
	case c == '-' || '0' <= c && c <= '9':
		v.Kind, v.N = api.Int, p.number()
	case c == '"':
		v.Kind, v.S = api.String, p.str()
	case c == '[':
		v.Kind, v.Items = api.Array, p.items(depth)
	case c == '{':
		v.Kind, v.Members = api.Object, p.members(depth)
	default:
		fail(p.at, api.ErrSyntax)
	}
	return v
}

// number reads the number that starts here.
func (p *parser) number() int64 {
	sequence := p.rest()
	sequence = sequence[:len(sequence)-len(strings.TrimLeft(sequence, numberBytes))]
	n, err := strconv.ParseInt(sequence, 10, 64)
	if err != nil || leadingZero(strings.TrimPrefix(sequence, "-")) {
		fail(p.at, api.ErrNumber)
	}
	p.at += len(sequence)
	return n
}

// leadingZero reports whether there is a digit behind a zero at the beginning.
func leadingZero(digits string) bool { return len(digits) > 1 && digits[0] == '0' }

// str reads the JSON string that starts here; what else is here gives a syntax error.
func (p *parser) str() string {
	s, at, e := jsonstring.Parse(p.s, p.at)
	if e != api.OK {
		fail(at, e)
	}
	p.at = at
	return s
}

// items reads the array of a depth that starts here.
func (p *parser) items(depth int) []api.Value {
	var items []api.Value
	p.list(depth, ']', func() { items = append(items, p.value(depth+1)) })
	return items
}

// members reads the object of a depth that starts here.
func (p *parser) members(depth int) []api.Member {
	var members []api.Member
	found := map[string]bool{}
	p.list(depth, '}', func() {
		p.next()
		m := api.Member{At: p.at}
		m.Key = p.str()
		if found[m.Key] {
			fail(m.At, api.ErrDuplicate)
		}
		found[m.Key] = true
		p.require(':')
		m.Value = p.value(depth + 1)
		members = append(members, m)
	})
	return members
}

// list reads what is between two brackets or braces, of which the first one is here; it calls a function at each element.
func (p *parser) list(depth int, end byte, element func()) {
	if depth > api.MaxNest {
		fail(p.at, api.ErrDepth)
	}
	p.at++
	for n := 0; !p.skip(end); n++ {
		if n > 0 {
			p.require(',')
		}
		element()
	}
}

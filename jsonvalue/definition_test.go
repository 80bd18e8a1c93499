package jsonvalue_test

import (
	"math/big"
	"regexp"
	"strconv"
	"strings"

	"feedvault/api"
	"feedvault/jsonstring"
)

// What a text requires next.
const (
	aValue      = "a value"
	anItem      = "a value, or the end of an array"
	aKey        = "a key"
	aMember     = "a key, or the end of an object"
	aColon      = "a colon"
	afterItem   = "a comma, or the end of an array"
	afterMember = "a comma, or the end of an object"
	theEnd      = "the end of the text"
)

// permitted are the first bytes of the tokens that a text permits next. Digits are represented by 0.
var permitted = map[string]string{
	aValue:      `ntf-0"[{`,
	anItem:      `ntf-0"[{]`,
	aKey:        `"`,
	aMember:     `"}`,
	aColon:      `:`,
	afterItem:   `,]`,
	afterMember: `,}`,
	theEnd:      ``,
}

var (
	words         = regexp.MustCompile(`^(null|true|false)`)
	numberLike    = regexp.MustCompile(`^[-+.eE0-9]+`)
	properNumber  = regexp.MustCompile(`^-?(0|[1-9][0-9]*)$`)
	least, _      = new(big.Int).SetString("-8000000000000000", 16)
	greatest, _   = new(big.Int).SetString("7FFFFFFFFFFFFFFF", 16)
	bytesOfSpaces = "\t\n\r "
)

// token is a scalar value, a key, or a byte with a meaning of its own, which is then its kind. The kind of the others is 'v'.
type token struct {
	kind  byte
	value api.Value
	next  int
}

// readToken is the chapter's grammar of what starts at an offset with a byte that is permitted there.
func readToken(s string, at int) (token, int, api.Errno) {
	t := token{kind: 'v', value: api.Value{At: at}}
	switch c := s[at]; c {
	case '[', ']', '{', '}', ',', ':':
		t.kind, t.next = c, at+1
	case '"':
		decoded, next, e := jsonstring.Parse(s, at)
		if e != api.OK {
			return token{}, next, e
		}
		t.value.Kind, t.value.S, t.next = 3, decoded, next
	case 'n', 't', 'f':
		w := words.FindString(s[at:])
		if w == "" {
			return token{}, at, api.ErrSyntax
		}
		if w != "null" {
			t.value.Kind, t.value.B = 1, w == "true"
		}
		t.next = at + len(w)
	default:
		w := numberLike.FindString(s[at:])
		n, _ := new(big.Int).SetString(w, 10)
		if !properNumber.MatchString(w) || n.Cmp(least) < 0 || n.Cmp(greatest) > 0 {
			return token{}, at, api.ErrNumber
		}
		t.value.Kind, t.value.N, t.next = 2, n.Int64(), at+len(w)
	}
	return t, 0, api.OK
}

// open is an array or object that has not ended, with the keys that it has so far.
type open struct {
	bracket byte
	keys    map[string]bool
}

// reader is the chapter's list of errors: it goes from token to token, by a table of what may follow.
type reader struct {
	s      string
	state  string
	opened []open
	tokens []token
}

// required returns the error where a text continues with something that is not permitted.
func (r *reader) required(at int) api.Errno {
	if at == len(r.s) {
		return api.ErrEOF
	}
	c := r.s[at]
	if '1' <= c && c <= '9' {
		c = '0'
	}
	switch {
	case r.state == theEnd:
		return api.ErrTrailing
	case !strings.Contains(permitted[r.state], string(rune(c))):
		return api.ErrSyntax
	case (c == '[' || c == '{') && len(r.opened)+1 > 100:
		return api.ErrDepth
	}
	return api.OK
}

// behind returns what is required behind a value.
func (r *reader) behind() string {
	switch {
	case len(r.opened) == 0:
		return theEnd
	case r.opened[len(r.opened)-1].bracket == '[':
		return afterItem
	}
	return afterMember
}

// follow moves to the state after a token.
func (r *reader) follow(t token) api.Errno {
	isKey := r.state == aKey || r.state == aMember
	switch {
	case t.kind == '[':
		r.opened = append(r.opened, open{bracket: '['})
		r.state = anItem
	case t.kind == '{':
		r.opened = append(r.opened, open{'{', map[string]bool{}})
		r.state = aMember
	case t.kind == ']' || t.kind == '}':
		r.opened = r.opened[:len(r.opened)-1]
		r.state = r.behind()
	case t.kind == ',' && r.state == afterItem || t.kind == ':':
		r.state = aValue
	case t.kind == ',':
		r.state = aKey
	case isKey:
		keys := r.opened[len(r.opened)-1].keys
		if keys[t.value.S] {
			return api.ErrDuplicate
		}
		keys[t.value.S] = true
		r.state = aColon
	default:
		r.state = r.behind()
	}
	return api.OK
}

// parse is the chapter's definition of Parse: it looks for errors first, and then puts the values together.
func parse(s string) (api.Value, int, api.Errno) {
	r := reader{s: s, state: aValue}
	at := len(s) - len(strings.TrimPrefix(s, "\xEF\xBB\xBF"))
	for {
		at = len(s) - len(strings.TrimLeft(s[at:], bytesOfSpaces))
		if at == len(s) && r.state == theEnd {
			v, _ := together(r.tokens)
			return v, len(s), api.OK
		}
		if e := r.required(at); e != api.OK {
			return api.Value{}, at, e
		}
		t, where, e := readToken(s, at)
		if e != api.OK {
			return api.Value{}, where, e
		}
		if e := r.follow(t); e != api.OK {
			return api.Value{}, at, e
		}
		r.tokens = append(r.tokens, t)
		at = t.next
	}
}

// together returns the value that starts with the first of the tokens, and the tokens after it. Commas and colons have done their work.
func together(tokens []token) (api.Value, []token) {
	first := tokens[0]
	v := first.value
	tokens = tokens[1:]
	switch first.kind {
	case '[':
		v.Kind = 4
		for tokens[0].kind != ']' {
			var item api.Value
			if tokens[0].kind == ',' {
				tokens = tokens[1:]
			}
			item, tokens = together(tokens)
			v.Items = append(v.Items, item)
		}
		tokens = tokens[1:]
	case '{':
		v.Kind = 5
		for tokens[0].kind != '}' {
			if tokens[0].kind == ',' {
				tokens = tokens[1:]
			}
			m := api.Member{Key: tokens[0].value.S, At: tokens[0].value.At}
			m.Value, tokens = together(tokens[2:])
			v.Members = append(v.Members, m)
		}
		tokens = tokens[1:]
	}
	return v, tokens
}

// show writes a value, with its offsets or without them, so that two values are equal exactly if they look the same.
func show(v api.Value, offsets bool) string {
	var out strings.Builder
	showTo(&out, v, offsets)
	return out.String()
}

func showTo(out *strings.Builder, v api.Value, offsets bool) {
	at := func(at int) string {
		if offsets {
			return "@" + strconv.Itoa(at)
		}
		return ""
	}
	out.WriteString(strconv.Itoa(v.Kind) + at(v.At) + " " + strconv.FormatBool(v.B) + " " + strconv.FormatInt(v.N, 10) + " " + strconv.Quote(v.S) + " [")
	for _, x := range v.Items {
		showTo(out, x, offsets)
	}
	out.WriteString("] {")
	for _, m := range v.Members {
		out.WriteString(strconv.Quote(m.Key) + at(m.At) + ": ")
		showTo(out, m.Value, offsets)
	}
	out.WriteString("}")
}

// depthOf is the chapter's definition of Depth: the number of levels on which there is a value.
func depthOf(v api.Value) int {
	depth := 0
	for level := []api.Value{v}; len(level) > 0; depth++ {
		var next []api.Value
		for _, v := range level {
			switch v.Kind {
			case 4:
				next = append(next, v.Items...)
			case 5:
				for _, m := range v.Members {
					next = append(next, m.Value)
				}
			}
		}
		level = next
	}
	return depth
}

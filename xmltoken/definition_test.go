package xmltoken_test

import (
	"strings"
	"unicode/utf8"

	"feedvault/api"
	"feedvault/xmlescape"
	"feedvault/xmltoken"
)

// nameStarts and nameParts are the ranges of the characters that names start with, and of those that only continue them, with the colon.
var (
	nameStarts = [][2]rune{{':', ':'}, {'A', 'Z'}, {'_', '_'}, {'a', 'z'}, {0xC0, 0xD6}, {0xD8, 0xF6}, {0xF8, 0x2FF}, {0x370, 0x37D}, {0x37F, 0x1FFF}, {0x200C, 0x200D}, {0x2070, 0x218F}, {0x2C00, 0x2FEF}, {0x3001, 0xD7FF}, {0xF900, 0xFDCF}, {0xFDF0, 0xFFFD}, {0x10000, 0xEFFFF}}
	nameParts  = [][2]rune{{'-', '-'}, {'.', '.'}, {'0', '9'}, {0xB7, 0xB7}, {0x300, 0x36F}, {0x203F, 0x2040}}
)

func within(r rune, ranges [][2]rune) bool {
	for _, x := range ranges {
		if x[0] <= r && r <= x[1] {
			return true
		}
	}
	return false
}

// qName is the chapter's definition of a tag or attribute name.
func qName(s string) bool {
	for i, r := range s {
		if !within(r, nameStarts) && (i == 0 || !within(r, nameParts)) {
			return false
		}
	}
	return s != "" && utf8.ValidString(s)
}

// unit is a character of a document whose line ends have been read, and its offset in the document.
type unit struct {
	r  rune
	at int
}

// document is a document as a sequence of units. It is the chapter's definition of Tokens, as a table of the states of a tag.
type document struct {
	s     string
	units []unit
}

func read(s string) document {
	d := document{s: s}
	for i, r := range s {
		switch {
		case i == 0 && r == 0xFEFF:
		case r == '\n' && i > 0 && s[i-1] == '\r':
		case r == '\r':
			d.units = append(d.units, unit{'\n', i})
		default:
			d.units = append(d.units, unit{r, i})
		}
	}
	return d
}

// at returns the offset of a unit, or the length of the document after the last one.
func (d document) at(i int) int {
	if i < len(d.units) {
		return d.units[i].at
	}
	return len(d.s)
}

func (d document) text(from, to int) string {
	out := ""
	for _, u := range d.units[from:to] {
		out += string(u.r)
	}
	return out
}

func (d document) has(i int, s string) bool {
	for _, r := range s {
		if i == len(d.units) || d.units[i].r != r {
			return false
		}
		i++
	}
	return true
}

// find returns the first unit from i on at which a string is, or -1.
func (d document) find(i int, s string) int {
	for ; i < len(d.units); i++ {
		if d.has(i, s) {
			return i
		}
	}
	return -1
}

// reference returns the rune and the number of units of the reference at a unit.
func (d document) reference(i int) (string, int, api.Errno) {
	r, next, e := xmlescape.Reference(d.s, d.at(i))
	return string(r), next - d.at(i), e
}

// tokens is the chapter's definition of Tokens, for a string that Check accepts.
func (d document) tokens() ([]xmltoken.Token, int, api.Errno) {
	var out []xmltoken.Token
	for i := 0; i < len(d.units); {
		t, next, at, e := d.construct(i)
		if e != api.OK {
			return nil, at, e
		}
		if t.Kind != 0 && (t.Kind != xmltoken.Text || t.Text != "") {
			t.At = d.at(i)
			out = append(out, t)
		}
		i = next
	}
	return out, len(d.s), api.OK
}

// construct returns a token, or one of the kind 0, and the unit after the construct; or the offset of an error, and the error.
func (d document) construct(i int) (xmltoken.Token, int, int, api.Errno) {
	for _, x := range []struct {
		start, end string
		kind       int
	}{{"<?", "?>", 0}, {"<!--", "-->", 0}, {"<![CDATA[", "]]>", xmltoken.Text}} {
		if !d.has(i, x.start) {
			continue
		}
		from := i + len(x.start)
		end := d.find(from, x.end)
		if end < 0 {
			return xmltoken.Token{}, 0, d.at(i), api.ErrEOF
		}
		return xmltoken.Token{Kind: x.kind, Text: d.text(from, end)}, end + len(x.end), 0, api.OK
	}
	switch {
	case d.has(i, "<!DOCTYPE"):
		return xmltoken.Token{}, 0, d.at(i), api.ErrDoctype
	case d.has(i, "<!"):
		return xmltoken.Token{}, 0, d.at(i), api.ErrSyntax
	case d.has(i, "</"):
		return d.tag(i, i+2, "end")
	case d.has(i, "<"):
		return d.tag(i, i+1, "start")
	}
	t := xmltoken.Token{Kind: xmltoken.Text}
	for ; i < len(d.units) && !d.has(i, "<"); i++ {
		if !d.has(i, "&") {
			t.Text += d.text(i, i+1)
			continue
		}
		r, n, e := d.reference(i)
		if e != api.OK {
			return xmltoken.Token{}, 0, d.at(i), e
		}
		t.Text += r
		i += n - 1
	}
	return t, i, 0, api.OK
}

// states tells for each state of a tag which state follows after a character of each class. A name starts with N and goes on with N and n; a space stands for white space, and a v for all but a less-than sign, an ampersand and the quote.
var states = map[string]map[string]string{
	"end":       {"N": "end name"},
	"end name":  {"N": "end name", "n": "end name", " ": "end space", ">": "done"},
	"end space": {" ": "end space", ">": "done"},
	"start":     {"N": "name"},
	"name":      {"N": "name", "n": "name", " ": "space", "/": "slash", ">": "done"},
	"space":     {" ": "space", "N": "attribute", "/": "slash", ">": "done"},
	"attribute": {"N": "attribute", "n": "attribute", " ": "equals", "=": "quote"},
	"equals":    {" ": "equals", "=": "quote"},
	"quote":     {" ": "quote", `"`: "double", "'": "single"},
	"double":    {"v": "double", `"`: "after"},
	"single":    {"v": "single", "'": "after"},
	"after":     {" ": "space", "/": "slash", ">": "done"},
	"slash":     {">": "done"},
}

// class returns the class of a character in a state.
func class(state string, r rune) string {
	switch {
	case state == "double" && !strings.ContainsRune(`<"`, r), state == "single" && !strings.ContainsRune(`<'`, r):
		return "v"
	case within(r, nameStarts):
		return "N"
	case within(r, nameParts):
		return "n"
	case strings.ContainsRune("\t\n\r ", r):
		return " "
	}
	return string(r)
}

// tag returns what construct does, for a tag that goes on in a state at a unit.
func (d document) tag(start, i int, state string) (xmltoken.Token, int, int, api.Errno) {
	t := xmltoken.Token{Kind: xmltoken.Start}
	if state == "end" {
		t.Kind = xmltoken.End
	}
	var a api.Attr
	for ; i < len(d.units) && state != "done"; i++ {
		r := d.units[i].r
		before := state
		state = states[state][class(state, r)]
		switch state {
		case "":
			return xmltoken.Token{}, 0, d.at(i), api.ErrSyntax
		case "name", "end name":
			t.Name += string(r)
		case "slash":
			t.Empty = true
		case "attribute":
			if before != state {
				a = api.Attr{At: d.at(i)}
			}
			a.Name += string(r)
		case "after":
			for _, b := range t.Attrs {
				if b.Name == a.Name {
					return xmltoken.Token{}, 0, a.At, api.ErrDuplicate
				}
			}
			t.Attrs = append(t.Attrs, a)
		case "double", "single":
			if before == "quote" {
				continue
			}
			v, n := string(r), 1
			if r == '&' {
				var e api.Errno
				if v, n, e = d.reference(i); e != api.OK {
					return xmltoken.Token{}, 0, d.at(i), e
				}
			} else if r == '\t' || r == '\n' {
				v = " "
			}
			a.Value += v
			i += n - 1
		}
	}
	if state != "done" {
		return xmltoken.Token{}, 0, d.at(start), api.ErrEOF
	}
	return t, i, 0, api.OK
}

package xmltoken

import (
	"strings"

	"feedvault/api"
	"feedvault/text"
	"feedvault/xmlescape"
)

// cursor is a place in a document. A method that returns an error leaves it at the offset of the error.
type cursor struct {
	s  string
	at int
}

// ended reports whether the cursor is at the end of the document.
func (c *cursor) ended() bool { return c.at == len(c.s) }

// rest returns the document from the cursor on.
func (c *cursor) rest() string { return c.s[c.at:] }

// starts reports whether the rest of the document starts with a string.
func (c *cursor) starts(with string) bool { return strings.HasPrefix(c.rest(), with) }

// skip moves behind a string, and reports whether it is there.
func (c *cursor) skip(what string) bool {
	found := c.starts(what)
	if found {
		c.at += len(what)
	}
	return found
}

// skipSpace moves behind white space, and reports whether there is any.
func (c *cursor) skipSpace() bool {
	from := c.at
	for !c.ended() && text.IsSpace(c.s[c.at]) {
		c.at++
	}
	return c.at > from
}

// name reads a name; it is empty if none starts here.
func (c *cursor) name() string {
	name := c.rest()[:nameLength(c.rest())]
	c.at += len(name)
	return name
}

// construct reads a construct. The token of one that is ignored is zero.
func (c *cursor) construct() (Token, api.Errno) {
	switch {
	case c.starts("<?"):
		_, e := c.section("<?", "?>")
		return Token{}, e
	case c.starts("<!--"):
		_, e := c.section("<!--", "-->")
		return Token{}, e
	case c.starts("<![CDATA["):
		at := c.at
		data, e := c.section("<![CDATA[", "]]>")
		return Token{Kind: Text, Text: lineEnds(data), At: at}, e
	case c.starts("<!DOCTYPE"):
		return Token{}, api.ErrDoctype
	case c.starts("<!"):
		return Token{}, api.ErrSyntax
	case c.starts("<"):
		return c.tag()
	}
	at := c.at
	data, e := c.data("<", lineEnds)
	return Token{Kind: Text, Text: data, At: at}, e
}

// section reads a construct that extends from its first bytes to the next end after them; it returns what is in between.
func (c *cursor) section(first, end string) (string, api.Errno) {
	inside, _, terminated := strings.Cut(c.rest()[len(first):], end)
	if !terminated {
		return "", api.ErrEOF
	}
	c.at += len(first) + len(inside) + len(end)
	return inside, api.OK
}

// tag reads a start tag or an end tag.
func (c *cursor) tag() (Token, api.Errno) {
	r := tagReader{cursor: c, start: c.at}
	if r.skip("</") {
		return r.endTag()
	}
	r.skip("<")
	return r.startTag()
}

// data reads up to the next of the stops, which are single bytes, or to the end of the document. Only what is not a reference is changed, since what a reference stands for is kept.
func (c *cursor) data(stops string, change func(string) string) (string, api.Errno) {
	var out strings.Builder
	for {
		n := strings.IndexAny(c.rest(), "&"+stops)
		if n < 0 {
			n = len(c.rest())
		}
		out.WriteString(change(c.rest()[:n]))
		c.at += n
		if !c.starts("&") {
			return out.String(), api.OK
		}
		r, next, e := xmlescape.Reference(c.s, c.at)
		if e != api.OK {
			return "", e
		}
		out.WriteRune(r)
		c.at = next
	}
}

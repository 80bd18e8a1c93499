package xmltoken

import "feedvault/api"

// tagReader reads a single tag. It moves the cursor of the document, and keeps the offset of the tag, at which the tag is reported if the document ends in it.
type tagReader struct {
	*cursor
	start int
}

// wrong returns the error for what follows in the tag.
func (r tagReader) wrong() api.Errno {
	if r.ended() {
		r.at = r.start
		return api.ErrEOF
	}
	return api.ErrSyntax
}

// expect moves behind a string that has to be there.
func (r tagReader) expect(what string) api.Errno {
	if !r.skip(what) {
		return r.wrong()
	}
	return api.OK
}

// expectName reads a name that has to be there.
func (r tagReader) expectName() (string, api.Errno) {
	name := r.name()
	if name == "" {
		return "", r.wrong()
	}
	return name, api.OK
}

// endTag reads the rest of an end tag.
func (r tagReader) endTag() (Token, api.Errno) {
	name, e := r.expectName()
	if e != api.OK {
		return Token{}, e
	}
	r.skipSpace()
	return Token{Kind: End, Name: name, At: r.start}, r.expect(">")
}

// startTag reads the rest of a start tag.
func (r tagReader) startTag() (Token, api.Errno) {
	name, e := r.expectName()
	if e != api.OK {
		return Token{}, e
	}
	attrs, e := r.attributes()
	if e != api.OK {
		return Token{}, e
	}
	empty := r.skip("/")
	return Token{Kind: Start, Name: name, Attrs: attrs, Empty: empty, At: r.start}, r.expect(">")
}

// attributes reads the attributes of a tag and the white space around them.
func (r tagReader) attributes() ([]api.Attr, api.Errno) {
	var attrs []api.Attr
	names := map[string]bool{}
	for r.skipSpace() && !r.starts("/") && !r.starts(">") {
		a, e := r.attribute()
		if e != api.OK {
			return nil, e
		}
		if names[a.Name] {
			r.at = a.At
			return nil, api.ErrDuplicate
		}
		names[a.Name] = true
		attrs = append(attrs, a)
	}
	return attrs, api.OK
}

// attribute reads an attribute.
func (r tagReader) attribute() (api.Attr, api.Errno) {
	at := r.at
	name, e := r.expectName()
	if e != api.OK {
		return api.Attr{}, e
	}
	r.skipSpace()
	if e := r.expect("="); e != api.OK {
		return api.Attr{}, e
	}
	r.skipSpace()
	value, e := r.value()
	return api.Attr{Name: name, Value: value, At: at}, e
}

// value reads the value of an attribute with its quotes.
func (r tagReader) value() (string, api.Errno) {
	quote := `"`
	if r.starts("'") {
		quote = "'"
	}
	if e := r.expect(quote); e != api.OK {
		return "", e
	}
	value, e := r.data("<"+quote, spaces)
	if e != api.OK {
		return "", e
	}
	return value, r.expect(quote)
}

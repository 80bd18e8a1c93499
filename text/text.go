// Package text is layer 1; see shared/doc/01-text.md.
package text

import (
	"unicode/utf8"

	"feedvault/api"
)

// nameSpan is a range of name characters; a name may start with them if start is set.
type nameSpan struct {
	first, last rune
	start       bool
}

// nameSpans holds all name characters. The ranges are disjoint and ascending, so that a search may stop early.
var nameSpans = []nameSpan{
	{'-', '.', false},
	{'0', '9', false},
	{'A', 'Z', true},
	{'_', '_', true},
	{'a', 'z', true},
	{0xB7, 0xB7, false},
	{0xC0, 0xD6, true},
	{0xD8, 0xF6, true},
	{0xF8, 0x2FF, true},
	{0x300, 0x36F, false},
	{0x370, 0x37D, true},
	{0x37F, 0x1FFF, true},
	{0x200C, 0x200D, true},
	{0x203F, 0x2040, false},
	{0x2070, 0x218F, true},
	{0x2C00, 0x2FEF, true},
	{0x3001, 0xD7FF, true},
	{0xF900, 0xFDCF, true},
	{0xFDF0, 0xFFFD, true},
	{0x10000, 0xEFFFF, true},
}

// Decode returns the rune whose encoding starts at a byte offset, and the length of the encoding.
func Decode(s string, at int) (rune, int) {
	if at < 0 || at >= len(s) {
		return 0, 0
	}
	r, n := utf8.DecodeRuneInString(s[at:])
	// The encoding of RuneError itself has three bytes; a single byte means that none starts here.
	if r == utf8.RuneError && n == 1 {
		return 0, 0
	}
	return r, n
}

// Check returns the offset and the error of the first byte that is not part of an XML character.
func Check(s string) (int, api.Errno) {
	at := 0
	for at < len(s) {
		r, n := Decode(s, at)
		if n == 0 {
			return at, api.ErrUTF8
		}
		if !IsChar(r) {
			return at, api.ErrChar
		}
		at += n
	}
	return at, api.OK
}

// IsChar reports whether a rune is an XML character.
func IsChar(r rune) bool {
	switch {
	case r < 0x20:
		return r == 0x9 || r == 0xA || r == 0xD
	case r <= 0xD7FF:
		return true
	case r <= 0xFFFF:
		return r >= 0xE000 && r <= 0xFFFD
	}
	return r <= 0x10FFFF
}

// IsNameStart reports whether a name may start with a rune.
func IsNameStart(r rune) bool {
	x, found := findNameSpan(r)
	return found && x.start
}

// IsNameChar reports whether a name may contain a rune.
func IsNameChar(r rune) bool {
	_, found := findNameSpan(r)
	return found
}

// findNameSpan returns the range of name characters that contains a rune.
func findNameSpan(r rune) (nameSpan, bool) {
	for _, x := range nameSpans {
		if r < x.first {
			break
		}
		if r <= x.last {
			return x, true
		}
	}
	return nameSpan{}, false
}

// IsName reports whether a string is a name without a colon.
func IsName(s string) bool {
	// Where no encoding starts, Decode returns the rune 0, which is no name character: this also rejects the empty string and invalid UTF-8.
	r, n := Decode(s, 0)
	if !IsNameStart(r) {
		return false
	}
	for at := n; at < len(s); at += n {
		r, n = Decode(s, at)
		if !IsNameChar(r) {
			return false
		}
	}
	return true
}

// IsSpace reports whether a byte is white space.
func IsSpace(c byte) bool {
	return c == 9 || c == 10 || c == 13 || c == 32
}

// Collapse replaces white space by single spaces and trims the string.
func Collapse(s string) string {
	out := make([]byte, 0, len(s))
	for i := range len(s) {
		if IsSpace(s[i]) {
			continue
		}
		// A space is written only before a byte that follows it, so that none is left at the ends.
		if len(out) > 0 && IsSpace(s[i-1]) {
			out = append(out, ' ')
		}
		out = append(out, s[i])
	}
	return string(out)
}

// Valid reports whether a string consists of XML characters and is collapsed.
func Valid(s string) bool {
	_, e := Check(s)
	return e == api.OK && Collapse(s) == s
}

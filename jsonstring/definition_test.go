package jsonstring_test

import (
	"fmt"
	"regexp"
	"strconv"
	"strings"
	"unicode/utf8"

	"feedvault/api"
)

// The items of JSON strings, as patterns of bytes. The first one has a row for each kind of encodings, without the double quote and the backslash.
const (
	plain = `[\x20!\x23-\[\]-\x7F]` +
		`|[\xC2-\xDF][\x80-\xBF]` +
		`|\xE0[\xA0-\xBF][\x80-\xBF]|[\xE1-\xEC\xEE\xEF][\x80-\xBF]{2}|\xED[\x80-\x9F][\x80-\xBF]` +
		`|\xF0[\x90-\xBF][\x80-\xBF]{2}|[\xF1-\xF3][\x80-\xBF]{3}|\xF4[\x80-\x8F][\x80-\xBF]{2}`
	withLetter = `\\["\\/bfnrt]`
	withNumber = `\\u(?:[0-9a-ce-fA-CE-F][0-9a-fA-F]{3}|[dD][0-7][0-9a-fA-F]{2})`
	asPair     = `\\u[dD][89abAB][0-9a-fA-F]{2}\\u[dD][c-fC-F][0-9a-fA-F]{2}`
)

var (
	opening   = regexp.MustCompile(`^"(?:` + plain + `|` + withLetter + `|` + withNumber + `|` + asPair + `)*`)
	sequences = regexp.MustCompile(withLetter + `|` + withNumber + `|` + asPair)
)

// meanings are what the letters of escape sequences stand for.
var meanings = map[byte]rune{'"': '"', '\\': '\\', '/': '/', 'b': 8, 'f': 12, 'n': 10, 'r': 13, 't': 9}

// canonical are the escape sequences with letters in canonical strings.
var canonical = map[rune]string{'"': `\"`, '\\': `\\`, 8: `\b`, 9: `\t`, 10: `\n`, 12: `\f`, 13: `\r`}

// widened returns a string with a rune for each byte, since regular expressions read runes.
func widened(s string) string {
	var out []rune
	for i := range len(s) {
		out = append(out, rune(s[i]))
	}
	return string(out)
}

// hex returns the number that four digits stand for.
func hex(digits string) rune {
	n, err := strconv.ParseInt(digits, 16, 32)
	if err != nil {
		panic(err)
	}
	return rune(n)
}

// meaning returns what an escape sequence, or a pair of them, stands for.
func meaning(sequence string) string {
	switch {
	case sequence[1] != 'u':
		return string(meanings[sequence[1]])
	case len(sequence) == 6:
		return string(hex(sequence[2:]))
	}
	h, l := hex(sequence[2:6]), hex(sequence[8:])
	return string(0x10000 + (h-0xD800)*0x400 + (l - 0xDC00))
}

// parse is the chapter's definition of Parse: it looks at what follows the longest sequence of items.
func parse(s string, at int) (string, int, api.Errno) {
	if at < 0 || at >= len(s) || s[at] != '"' {
		return "", at, api.ErrSyntax
	}
	end := at + utf8.RuneCountInString(opening.FindString(widened(s[at:])))
	rest := s[end:]
	switch {
	case rest == "" || rest == `\`:
		return "", at, api.ErrEOF
	case rest[0] == '"':
		return sequences.ReplaceAllStringFunc(s[at+1:end], meaning), end + 1, api.OK
	case rest[0] == '\\':
		return "", end, api.ErrEscape
	case rest[0] < 32:
		return "", end, api.ErrChar
	}
	return "", end, api.ErrUTF8
}

// quote is the chapter's definition of Quote.
func quote(s string) (string, api.Errno) {
	if !utf8.ValidString(s) {
		return "", api.ErrUTF8
	}
	var out strings.Builder
	for _, r := range s {
		switch {
		case canonical[r] != "":
			out.WriteString(canonical[r])
		case r < 32:
			fmt.Fprintf(&out, `\u%04x`, r)
		default:
			out.WriteRune(r)
		}
	}
	return `"` + out.String() + `"`, api.OK
}

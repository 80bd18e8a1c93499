package xmlwrite_test

import (
	"regexp"
	"slices"
	"strings"
	"unicode/utf8"

	"feedvault/api"
)

// nameStarts and nameParts are the characters that names start with, and those that only continue them. A colon may stand anywhere.
const (
	nameStarts = `:A-Z_a-z\x{C0}-\x{D6}\x{D8}-\x{F6}\x{F8}-\x{2FF}\x{370}-\x{37D}\x{37F}-\x{1FFF}\x{200C}-\x{200D}\x{2070}-\x{218F}\x{2C00}-\x{2FEF}\x{3001}-\x{D7FF}\x{F900}-\x{FDCF}\x{FDF0}-\x{FFFD}\x{10000}-\x{EFFFF}`
	nameParts  = `0-9.\-\x{B7}\x{300}-\x{36F}\x{203F}-\x{2040}`
)

var (
	validName  = regexp.MustCompile(`\A[` + nameStarts + `][` + nameStarts + nameParts + `]*\z`)
	validChars = regexp.MustCompile(`\A[\t\n\r\x{20}-\x{D7FF}\x{E000}-\x{FFFD}\x{10000}-\x{10FFFF}]*\z`)
)

// isName and isChars ask for UTF-8 separately: a regular expression reads wrong bytes as a character that both permit.
func isName(s string) bool { return utf8.ValidString(s) && validName.MatchString(s) }

func isChars(s string) bool { return utf8.ValidString(s) && validChars.MatchString(s) }

// valid is the chapter's definition of a valid tree, read depth by depth. It stops at the first one that is too great.
func valid(root api.Node) bool {
	level := []api.Node{root}
	for depth := 1; len(level) > 0; depth++ {
		var next []api.Node
		for _, n := range level {
			isElement := properElement(n) && depth <= 100
			isData := properData(n) && depth > 1
			if !isElement && !isData {
				return false
			}
			next = append(next, n.Kids...)
		}
		level = next
	}
	return true
}

// properElement and properData are what the chapter asks of a node of each kind, apart from its depth and its kids.
func properElement(n api.Node) bool {
	for i, a := range n.Attrs {
		sameName := func(b api.Attr) bool { return b.Name == a.Name }
		if a.Space != "" || !isName(a.Name) || !isChars(a.Value) || slices.ContainsFunc(n.Attrs[:i], sameName) {
			return false
		}
	}
	for i := 1; i < len(n.Kids); i++ {
		if n.Kids[i].Kind == 1 && n.Kids[i-1].Kind == 1 {
			return false
		}
	}
	return n.Kind == 0 && n.Space == "" && n.Text == "" && isName(n.Name)
}

func properData(n api.Node) bool {
	return n.Kind == 1 && n.Text != "" && isChars(n.Text) && n.Space == "" && n.Name == "" && len(n.Attrs) == 0 && len(n.Kids) == 0
}

const firstLine = "<?xml version=\"1.0\" encoding=\"UTF-8\"?>\n"

var (
	escapedData  = strings.NewReplacer("&", "&amp;", "<", "&lt;", ">", "&gt;", "\r", "&#13;")
	escapedValue = strings.NewReplacer("&", "&amp;", "<", "&lt;", ">", "&gt;", "\r", "&#13;", `"`, "&quot;", "\t", "&#9;", "\n", "&#10;")
)

// document is the chapter's definition of the canonical document of a valid tree.
func document(n api.Node) string { return firstLine + form(n) + "\n" }

// form is the chapter's definition of the canonical form of a node.
func form(n api.Node) string {
	if n.Kind == 1 {
		return escapedData.Replace(n.Text)
	}
	var attrs, kids []string
	for _, a := range n.Attrs {
		attrs = append(attrs, " "+a.Name+`="`+escapedValue.Replace(a.Value)+`"`)
	}
	tag := n.Name + strings.Join(attrs, "")
	if len(n.Kids) == 0 {
		return "<" + tag + "/>"
	}
	for _, k := range n.Kids {
		kids = append(kids, form(k))
	}
	return "<" + tag + ">" + strings.Join(kids, "") + "</" + n.Name + ">"
}

// elem is the chapter's definition of Elem.
func elem(name string, kids ...api.Node) api.Node {
	isEmpty := func(k api.Node) bool { return k.Kind == 1 && k.Text == "" }
	return api.Node{Name: name, Kids: slices.DeleteFunc(slices.Clone(kids), isEmpty)}
}

// with is the chapter's definition of With.
func with(n api.Node, pairs ...string) api.Node {
	n.Attrs = slices.Clone(n.Attrs)
	for pair := range slices.Chunk(pairs, 2) {
		if len(pair) == 2 {
			n.Attrs = append(n.Attrs, api.Attr{Name: pair[0], Value: pair[1]})
		}
	}
	return n
}

// data is the chapter's definition of Text.
func data(s string) api.Node { return api.Node{Kind: 1, Text: s} }

// same compares two nodes with their offsets.
func same(a, b api.Node) bool {
	return a.Kind == b.Kind && a.Space == b.Space && a.Name == b.Name && a.Text == b.Text && a.At == b.At &&
		slices.Equal(a.Attrs, b.Attrs) && slices.EqualFunc(a.Kids, b.Kids, same)
}

// clone returns a copy of a node that shares nothing with it.
func clone(n api.Node) api.Node {
	n.Attrs = slices.Clone(n.Attrs)
	n.Kids = slices.Clone(n.Kids)
	for i, k := range n.Kids {
		n.Kids[i] = clone(k)
	}
	return n
}

package xmlns_test

import (
	"regexp"
	"slices"
	"unicode/utf8"

	"feedvault/api"
)

// nameStarts and nameParts are the characters that names start with, and those that only continue them.
const (
	nameStarts = `A-Z_a-z\x{C0}-\x{D6}\x{D8}-\x{F6}\x{F8}-\x{2FF}\x{370}-\x{37D}\x{37F}-\x{1FFF}\x{200C}-\x{200D}\x{2070}-\x{218F}\x{2C00}-\x{2FEF}\x{3001}-\x{D7FF}\x{F900}-\x{FDCF}\x{FDF0}-\x{FFFD}\x{10000}-\x{EFFFF}`
	nameParts  = `0-9.\-\x{B7}\x{300}-\x{36F}\x{203F}-\x{2040}`
	name       = "([" + nameStarts + "][" + nameStarts + nameParts + "]*)"
)

var qualifiedName = regexp.MustCompile(`\A(?:` + name + `:)?` + name + `\z`)

// split is the chapter's definition of a qualified name. A regular expression reads wrong bytes as a character that names may contain.
func split(s string) (string, string, bool) {
	parts := qualifiedName.FindStringSubmatch(s)
	if parts == nil || !utf8.ValidString(s) {
		return "", "", false
	}
	return parts[1], parts[2], true
}

func declares(a api.Attr) bool {
	prefix, _, _ := split(a.Name)
	return a.Name == "xmlns" || prefix == "xmlns"
}

// path is an element of a tree, behind all elements around it, from the root on.
type path []api.Node

func (p path) element() api.Node { return p[len(p)-1] }

// preorder returns the elements of a tree, each with those around it.
func preorder(around path, n api.Node) []path {
	p := append(slices.Clone(around), n)
	out := []path{p}
	for _, k := range n.Kids {
		if k.Kind == 0 {
			out = append(out, preorder(p, k)...)
		}
	}
	return out
}

// space is the chapter's definition of the namespace of a prefix, or of the default one if the prefix is empty: the innermost declaration applies.
func (p path) space(prefix string) (string, bool) {
	if prefix == "xml" {
		return "http://www.w3.org/XML/1998/namespace", true
	}
	name := "xmlns"
	if prefix != "" {
		name += ":" + prefix
	}
	for _, n := range slices.Backward(p) {
		for _, a := range n.Attrs {
			if a.Name == name {
				return a.Value, true
			}
		}
	}
	return "", prefix == ""
}

// attr returns a resolved attribute, and whether its prefix is declared.
func (p path) attr(a api.Attr) (api.Attr, bool) {
	prefix, local, _ := split(a.Name)
	space, found := "", true
	if prefix != "" {
		space, found = p.space(prefix)
	}
	return api.Attr{Space: space, Name: local, Value: a.Value, At: a.At}, found
}

// wrong is the chapter's list of errors for an element.
func (p path) wrong() (int, api.Errno) {
	n := p.element()
	prefix, _, ok := split(n.Name)
	if !ok || prefix == "xmlns" {
		return n.At, 13
	}
	for _, a := range n.Attrs {
		prefix, local, ok := split(a.Name)
		if !ok || prefix == "xmlns" && (local == "xml" || local == "xmlns" || a.Value == "") {
			return a.At, 13
		}
	}
	if _, found := p.space(prefix); !found {
		return n.At, 13
	}
	attrs := slices.DeleteFunc(slices.Clone(n.Attrs), declares)
	for i, a := range attrs {
		a, found := p.attr(a)
		if !found {
			return a.At, 13
		}
		for _, b := range attrs[:i] {
			if b, _ := p.attr(b); a.Space == b.Space && a.Name == b.Name {
				return a.At, 10
			}
		}
	}
	return 0, 0
}

// copied returns the copy of an element, with the copies of those in it.
func (p path) copied() api.Node {
	n := p.element()
	prefix, local, _ := split(n.Name)
	space, _ := p.space(prefix)
	out := api.Node{Kind: n.Kind, Space: space, Name: local, Text: n.Text, At: n.At}
	for _, a := range n.Attrs {
		if !declares(a) {
			a, _ = p.attr(a)
			out.Attrs = append(out.Attrs, a)
		}
	}
	for _, k := range n.Kids {
		if k.Kind == 0 {
			k = append(slices.Clone(p), k).copied()
		}
		out.Kids = append(out.Kids, k)
	}
	return out
}

// resolve is the chapter's definition of Resolve: it looks for errors first.
func resolve(n api.Node) (api.Node, int, api.Errno) {
	for _, p := range preorder(nil, n) {
		if at, e := p.wrong(); e != api.OK {
			return api.Node{}, at, e
		}
	}
	return path{n}.copied(), 0, 0
}

// same compares two nodes with their offsets.
func same(a, b api.Node) bool {
	return a.Kind == b.Kind && a.Space == b.Space && a.Name == b.Name && a.Text == b.Text && a.At == b.At &&
		slices.Equal(a.Attrs, b.Attrs) && slices.EqualFunc(a.Kids, b.Kids, same)
}

// clone returns a copy of a node that shares nothing with it.
func clone(n api.Node) api.Node {
	n.Attrs = slices.Clone(n.Attrs)
	n.Kids = slices.Clone(n.Kids)
	for i, k := range n.Kids {
		n.Kids[i] = clone(k)
	}
	return n
}

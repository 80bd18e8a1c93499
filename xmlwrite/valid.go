package xmlwrite

import (
	"feedvault/api"
	"feedvault/text"
	"feedvault/xmltoken"
)

// validNode reports whether a node and everything in it is valid. The depth is that of the node if it is an element.
func validNode(n api.Node, depth int) bool {
	switch n.Kind {
	case api.Element:
		return validElement(n, depth)
	case api.CharData:
		return validData(n)
	}
	return false
}

// validElement checks the depth before the kids, so that it goes no deeper than valid trees do.
func validElement(n api.Node, depth int) bool {
	return depth <= api.MaxNest && n.Space == "" && n.Text == "" && xmltoken.IsQName(n.Name) &&
		validAttrs(n.Attrs) && validKids(n.Kids, depth+1)
}

// validData reports whether character data is valid.
func validData(n api.Node) bool {
	return n.Text != "" && hasChars(n.Text) && n.Space == "" && n.Name == "" && len(n.Attrs) == 0 && len(n.Kids) == 0
}

// validAttrs reports whether the attributes of an element are valid.
func validAttrs(attrs []api.Attr) bool {
	names := map[string]bool{}
	for _, a := range attrs {
		if a.Space != "" || !xmltoken.IsQName(a.Name) || !hasChars(a.Value) || names[a.Name] {
			return false
		}
		names[a.Name] = true
	}
	return true
}

// validKids reports whether the kids of an element are valid, with the depth that the elements among them have.
func validKids(kids []api.Node, depth int) bool {
	for i, k := range kids {
		// Adjacent character data would be read back as a single node.
		if i > 0 && k.Kind == api.CharData && kids[i-1].Kind == api.CharData {
			return false
		}
		if !validNode(k, depth) {
			return false
		}
	}
	return true
}

// hasChars reports whether a string consists of XML characters.
func hasChars(s string) bool {
	_, e := text.Check(s)
	return e == api.OK
}

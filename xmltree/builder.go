package xmltree

import (
	"strings"

	"feedvault/api"
	"feedvault/text"
	"feedvault/xmltoken"
)

// builder builds the tree of a document from its tokens.
type builder struct {
	// document contains the root, as an element contains its kids, so that the root is no special case.
	document api.Node
	// open has the document and the open elements, from the outermost one on. The pointers stay right because a node gets no further kid while its last one is open.
	open []*api.Node
	// data is character data of the innermost element. It becomes a node at the next tag, since more of it may follow; adding to the node itself would copy it every time.
	data   strings.Builder
	dataAt int
}

func newBuilder() *builder {
	b := &builder{}
	b.open = append(b.open, &b.document)
	return b
}

// outside reports whether no element is open.
func (b *builder) outside() bool { return len(b.open) == 1 }

// hasRoot reports whether the root has begun.
func (b *builder) hasRoot() bool { return len(b.document.Kids) > 0 }

// root returns the root, which has to be there.
func (b *builder) root() api.Node { return b.document.Kids[0] }

// innermost returns the innermost open element, or the document.
func (b *builder) innermost() *api.Node { return b.open[len(b.open)-1] }

// add processes a token.
func (b *builder) add(t xmltoken.Token) api.Errno {
	switch t.Kind {
	case xmltoken.Start:
		return b.start(t)
	case xmltoken.End:
		return b.end(t)
	}
	return b.text(t)
}

// start begins an element, which also ends if its tag is empty.
func (b *builder) start(t xmltoken.Token) api.Errno {
	if b.outside() && b.hasRoot() {
		return api.ErrTrailing
	}
	// The document is open beside the elements, so their number with the new one is that of the open nodes.
	if len(b.open) > api.MaxNest {
		return api.ErrDepth
	}
	b.endData()
	n := b.put(api.Node{Kind: api.Element, Name: t.Name, Attrs: t.Attrs, At: t.At})
	if !t.Empty {
		b.open = append(b.open, n)
	}
	return api.OK
}

// end ends the innermost element.
func (b *builder) end(t xmltoken.Token) api.Errno {
	if b.outside() || b.innermost().Name != t.Name {
		return api.ErrMismatch
	}
	b.endData()
	b.open = b.open[:len(b.open)-1]
	return api.OK
}

// text collects character data of the innermost element. The document has none.
func (b *builder) text(t xmltoken.Token) api.Errno {
	if b.outside() {
		if text.Collapse(t.Text) != "" {
			return api.ErrSyntax
		}
		return api.OK
	}
	if b.data.Len() == 0 {
		b.dataAt = t.At
	}
	b.data.WriteString(t.Text)
	return api.OK
}

// endData makes a node of the character data, if there is any.
func (b *builder) endData() {
	if b.data.Len() > 0 {
		b.put(api.Node{Kind: api.CharData, Text: b.data.String(), At: b.dataAt})
		b.data.Reset()
	}
}

// put adds a node to the innermost element, and returns a pointer to it.
func (b *builder) put(n api.Node) *api.Node {
	to := b.innermost()
	to.Kids = append(to.Kids, n)
	return &to.Kids[len(to.Kids)-1]
}

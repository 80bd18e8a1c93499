package xmltree_test

import (
	"slices"
	"strconv"
	"strings"

	"feedvault/api"
	"feedvault/xmltoken"
)

// opened returns the names of the elements that are open after tokens of which none is wrong, from the outermost one on.
func opened(tokens []xmltoken.Token) []string {
	var names []string
	for _, t := range tokens {
		switch {
		case t.Kind == xmltoken.Start && !t.Empty:
			names = append(names, t.Name)
		case t.Kind == xmltoken.End:
			names = names[:len(names)-1]
		}
	}
	return names
}

func isStart(t xmltoken.Token) bool { return t.Kind == xmltoken.Start }

// wrong is the chapter's list of errors: that of a token after others of which none is wrong.
func wrong(before []xmltoken.Token, t xmltoken.Token) api.Errno {
	names := opened(before)
	outside := len(names) == 0
	switch {
	case t.Kind == xmltoken.Start && outside && slices.ContainsFunc(before, isStart):
		return api.ErrTrailing
	case t.Kind == xmltoken.Start && len(names)+1 > 100:
		return api.ErrDepth
	case t.Kind == xmltoken.End && (outside || names[len(names)-1] != t.Name):
		return api.ErrMismatch
	case t.Kind == xmltoken.Text && outside && strings.Trim(t.Text, "\t\n\r ") != "":
		return api.ErrSyntax
	}
	return api.OK
}

// parse is the chapter's definition of Parse: it looks for errors first, and then reads the elements from the root on.
func parse(s string) (api.Node, int, api.Errno) {
	tokens, at, e := xmltoken.Tokens(s)
	if e != api.OK {
		return api.Node{}, at, e
	}
	for i, t := range tokens {
		if e := wrong(tokens[:i], t); e != api.OK {
			return api.Node{}, t.At, e
		}
	}
	root := slices.IndexFunc(tokens, isStart)
	if root < 0 || len(opened(tokens)) > 0 {
		return api.Node{}, len(s), api.ErrEOF
	}
	n, _ := read(tokens[root:])
	return n, len(s), api.OK
}

// read returns the element that starts with the first of the tokens, and the tokens after it.
func read(tokens []xmltoken.Token) (api.Node, []xmltoken.Token) {
	first := tokens[0]
	n := api.Node{Name: first.Name, Attrs: first.Attrs, At: first.At}
	tokens = tokens[1:]
	if first.Empty {
		return n, tokens
	}
	for tokens[0].Kind != xmltoken.End {
		kid := data(tokens[0].At, "")
		if isStart(tokens[0]) {
			kid, tokens = read(tokens)
		}
		for kid.Kind == api.CharData && tokens[0].Kind == xmltoken.Text {
			kid.Text += tokens[0].Text
			tokens = tokens[1:]
		}
		n.Kids = append(n.Kids, kid)
	}
	return n, tokens[1:]
}

// show writes a node, with its offsets or without them, so that two nodes are equal exactly if they look the same.
func show(n api.Node, offsets bool) string {
	var out strings.Builder
	showTo(&out, n, offsets)
	return out.String()
}

func showTo(out *strings.Builder, n api.Node, offsets bool) {
	at := func(at int) string {
		if offsets {
			return "@" + strconv.Itoa(at)
		}
		return ""
	}
	out.WriteString(strconv.Itoa(n.Kind) + at(n.At) + " " + strconv.Quote(n.Space) + " " + strconv.Quote(n.Name) + " " + strconv.Quote(n.Text) + " [")
	for _, a := range n.Attrs {
		out.WriteString(strconv.Quote(a.Space) + " " + strconv.Quote(a.Name) + " " + strconv.Quote(a.Value) + at(a.At) + ";")
	}
	out.WriteString("] (")
	for _, k := range n.Kids {
		showTo(out, k, offsets)
	}
	out.WriteString(")")
}

// textOf is the chapter's definition of Text, with a list of nodes that are still to be read, the next one last.
func textOf(n api.Node) string {
	var out strings.Builder
	for left := []api.Node{n}; len(left) > 0; {
		n = left[len(left)-1]
		left = left[:len(left)-1]
		if n.Kind == 1 {
			out.WriteString(n.Text)
			continue
		}
		for i := range n.Kids {
			left = append(left, n.Kids[len(n.Kids)-1-i])
		}
	}
	return out.String()
}

// depthOf is the chapter's definition of Depth: the number of levels on which there is an element.
func depthOf(n api.Node) int {
	depth := 0
	for level := []api.Node{n}; ; depth++ {
		level = slices.DeleteFunc(level, func(n api.Node) bool { return n.Kind == 1 })
		if len(level) == 0 {
			return depth
		}
		var next []api.Node
		for _, n := range level {
			next = append(next, n.Kids...)
		}
		level = next
	}
}

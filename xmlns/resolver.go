package xmlns

import "feedvault/api"

const (
	// declaring is the prefix of the attributes that declare a prefix, and the name of those that declare the default namespace.
	declaring = "xmlns"
	// xmlPrefix needs no declaration, and stands for xmlSpace.
	xmlPrefix = "xml"
	xmlSpace  = "http://www.w3.org/XML/1998/namespace"
)

// finder finds the environment of an element by its attributes; on error it returns the offset.
type finder func(attrs []api.Attr) (*environment, int, api.Errno)

// resolver resolves the elements of one tree.
type resolver struct {
	// numbers has the numbers of the namespaces.
	numbers map[string]int
}

func newResolver() *resolver {
	return &resolver{numbers: map[string]int{"": 0}}
}

// namespace returns the namespace with a name.
func (r *resolver) namespace(name string) namespace {
	number, known := r.numbers[name]
	if !known {
		number = len(r.numbers)
		r.numbers[name] = number
	}
	return namespace{name, number}
}

// outermost returns the environment around the root.
func (r *resolver) outermost() *environment {
	return &environment{declared: map[string]namespace{"": {}, xmlPrefix: r.namespace(xmlSpace)}}
}

// within returns a function that finds the environments of the elements directly within an environment.
func (r *resolver) within(outer *environment) finder {
	return func(attrs []api.Attr) (*environment, int, api.Errno) {
		declared, at, e := r.declarations(attrs)
		if e != api.OK {
			return nil, at, e
		}
		if len(declared) == 0 {
			return outer, 0, api.OK
		}
		return &environment{declared, outer}, 0, api.OK
	}
}

// declarations checks the names and the declarations among attributes, and returns the namespaces by prefix.
func (r *resolver) declarations(attrs []api.Attr) (map[string]namespace, int, api.Errno) {
	declared := map[string]namespace{}
	for _, a := range attrs {
		if _, _, ok := Split(a.Name); !ok {
			return nil, a.At, api.ErrPrefix
		}
		prefix, declares := declaration(a)
		if !declares {
			continue
		}
		if prefix == xmlPrefix || prefix == declaring || prefix != "" && a.Value == "" {
			return nil, a.At, api.ErrPrefix
		}
		declared[prefix] = r.namespace(a.Value)
	}
	return declared, 0, api.OK
}

// declaration returns the prefix that an attribute declares, which is empty for the default namespace, and whether it is a declaration.
func declaration(a api.Attr) (string, bool) {
	prefix, local, _ := Split(a.Name)
	switch {
	case prefix == declaring:
		return local, true
	case prefix == "" && local == declaring:
		return "", true
	}
	return "", false
}

// element resolves an element and everything within it; on error it returns the offset.
func (r *resolver) element(n *api.Node, find finder) (int, api.Errno) {
	prefix, local, ok := Split(n.Name)
	if !ok || prefix == declaring {
		return n.At, api.ErrPrefix
	}
	inner, at, e := find(n.Attrs)
	if e != api.OK {
		return at, e
	}
	space, found := inner.find(prefix)
	if !found {
		return n.At, api.ErrPrefix
	}
	n.Space, n.Name = space.name, local
	if n.Attrs, at, e = inner.attrs(n.Attrs); e != api.OK {
		return at, e
	}
	findKid := r.within(inner)
	for i := range n.Kids {
		if n.Kids[i].Kind != api.Element {
			continue
		}
		if at, e := r.element(&n.Kids[i], findKid); e != api.OK {
			return at, e
		}
	}
	return 0, api.OK
}

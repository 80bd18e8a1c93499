package xmlns

import "feedvault/api"

// namespace is a namespace with a number that no other one has. Attributes are compared by the number, since it takes too long to read a long name again for each of them. Zero stands for the empty namespace.
type namespace struct {
	name   string
	number int
}

// environment has the declarations of an element, and those around it in outer.
type environment struct {
	// declared has the namespaces by prefix; the default one has the empty prefix.
	declared map[string]namespace
	outer    *environment
}

// find returns the namespace that a prefix stands for, or the default one for the empty prefix.
func (v *environment) find(prefix string) (namespace, bool) {
	for ; v != nil; v = v.outer {
		if space, found := v.declared[prefix]; found {
			return space, true
		}
	}
	return namespace{}, false
}

// attrs returns the resolved attributes of an element, without the declarations.
func (v *environment) attrs(attrs []api.Attr) ([]api.Attr, int, api.Errno) {
	resolve := v.attrResolver()
	var out []api.Attr
	for _, a := range attrs {
		if _, declares := declaration(a); declares {
			continue
		}
		if e := resolve(&a); e != api.OK {
			return nil, a.At, e
		}
		out = append(out, a)
	}
	return out, 0, api.OK
}

// attrResolver returns a function that resolves the attributes of one element, and remembers them to find duplicates.
func (v *environment) attrResolver() func(*api.Attr) api.Errno {
	type resolved struct {
		space int
		local string
	}
	earlier := map[resolved]bool{}
	return func(a *api.Attr) api.Errno {
		prefix, local, _ := Split(a.Name)
		var space namespace
		// The default namespace is for elements only.
		if prefix != "" {
			var found bool
			if space, found = v.find(prefix); !found {
				return api.ErrPrefix
			}
		}
		name := resolved{space.number, local}
		if earlier[name] {
			return api.ErrDuplicate
		}
		earlier[name] = true
		a.Space, a.Name = space.name, local
		return api.OK
	}
}

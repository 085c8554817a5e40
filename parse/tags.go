package parse

import (
	"apostille/api"
	"apostille/chars"
	"apostille/name"
)

const (
	xml    = "xml"
	xmlURI = "http://www.w3.org/XML/1998/namespace"
	xmlns  = "xmlns"
)

// behindName is what may stand behind a full name.
const behindName = blank + "=/>"

// startTag reads an element's beginning behind its <; of an empty tag all of it.
func (r *reader) startTag() bool {
	full := r.upTo(behindName)
	prefix, local, ok := name.Split(full)
	x := api.Node{Kind: api.Element, Prefix: prefix, Local: local}
	for ok {
		apart := r.blanks()
		switch {
		case r.skip(">"):
			r.begin(x, full)
			return true
		case r.skip("/>"):
			r.begin(x, full)
			r.end()
			return true
		}
		ok = apart && r.mark(&x)
	}
	return false
}

// mark reads a mark, and lays it to those of x.
func (r *reader) mark(x *api.Node) bool {
	prefix, local, ok := name.Split(r.upTo(behindName))
	if !ok || !r.equals() {
		return false
	}
	said, found := r.quoted()
	value, ok := chars.Value(said)
	switch {
	case prefix == "" && local == xmlns:
		x.Decls = append(x.Decls, api.Decl{URI: value})
	case prefix == xmlns:
		x.Decls = append(x.Decls, api.Decl{Prefix: local, URI: value})
	default:
		x.Attrs = append(x.Attrs, api.Attr{Prefix: prefix, Local: local, Value: value})
	}
	return found && ok
}

// begin opens the element x, which has all its marks, so what its prefixes mean is known.
func (r *reader) begin(x api.Node, full string) {
	outer := len(r.decls)
	r.decls = append(r.decls, x.Decls...)
	x.URI = r.meant(x.Prefix)
	for i, a := range x.Attrs {
		// What is declared of "" is for elements alone.
		if a.Prefix != "" {
			x.Attrs[i].URI = r.meant(a.Prefix)
		}
	}
	node := r.add(x)
	r.open = append(r.open, opened{node: node, full: full, outer: outer})
}

// end closes the innermost element.
func (r *reader) end() {
	r.endText()
	r.decls = r.decls[:r.innermost().outer]
	r.open = r.open[:len(r.open)-1]
}

// endTag reads the innermost element's end tag behind its </.
func (r *reader) endTag() bool {
	if r.outside() || !r.skip(r.innermost().full) {
		return false
	}
	r.blanks()
	r.end()
	return r.skip(">")
}

// meant answers the URI that prefix means by the nearest declaration; "", which is formed of no
// prefix but "", if it means none.
func (r *reader) meant(prefix string) string {
	if prefix == xml {
		return xmlURI
	}
	for i := len(r.decls) - 1; i >= 0; i-- {
		if r.decls[i].Prefix == prefix {
			return r.decls[i].URI
		}
	}
	return ""
}

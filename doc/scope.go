package doc

import "apostille/api"

const (
	xml      = "xml"
	xmlURI   = "http://www.w3.org/XML/1998/namespace"
	xmlns    = "xmlns"
	xmlnsURI = "http://www.w3.org/2000/xmlns/"
)

// declared is a declaration of an element that isn't ended yet.
type declared struct {
	uri string
	// outer is what nearest said of the prefix ahead of this declaration.
	outer int
}

// scope is what is declared by the elements that aren't ended yet.
type scope struct {
	open []declared
	// nearest tells of each prefix how many are open up to its nearest declaration; 0 if it has none.
	nearest map[string]int
}

// namesMean tells whether the prefixes of all elements and attributes of l mean their URIs. The
// nodes of l hang on each other as they may, and are formed by their Kinds.
func namesMean(l []api.Node) bool {
	s := scope{nearest: map[string]int{}}
	for i, x := range l {
		for n := i - 1; n > x.Parent; n = l[n].Parent {
			s.end(l[n].Decls)
		}
		s.begin(x.Decls)
		if x.Kind == api.Element && !s.elementMeans(x) {
			return false
		}
	}
	return true
}

func (s *scope) begin(l []api.Decl) {
	for _, d := range l {
		s.open = append(s.open, declared{uri: d.URI, outer: s.nearest[d.Prefix]})
		s.nearest[d.Prefix] = len(s.open)
	}
}

// end takes back what begin did of l, the last one first.
func (s *scope) end(l []api.Decl) {
	for i := len(l) - 1; i >= 0; i-- {
		last := len(s.open) - 1
		s.nearest[l[i].Prefix] = s.open[last].outer
		s.open = s.open[:last]
	}
}

func (s *scope) elementMeans(x api.Node) bool {
	if !s.means(x.Prefix, x.URI) {
		return false
	}
	for _, a := range x.Attrs {
		// What is declared of "" is for elements alone.
		if a.Prefix == "" && a.URI != "" || a.Prefix != "" && !s.means(a.Prefix, a.URI) {
			return false
		}
	}
	return true
}

// means tells whether prefix means uri. xmlns means nothing, as it is never declared.
func (s *scope) means(prefix, uri string) bool {
	if prefix == xml {
		return uri == xmlURI
	}
	if at := s.nearest[prefix]; at > 0 {
		return uri == s.open[at-1].uri
	}
	return prefix == "" && uri == ""
}

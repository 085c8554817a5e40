package parse

import (
	"apostille/api"
	"apostille/chars"
	"apostille/name"
)

// opened is the Root, or an element whose end tag isn't read yet.
type opened struct {
	// node is its number.
	node int
	// full is the name that its end tag says.
	full string
	// outer is how many declarations stand above it.
	outer int
}

// reader makes nodes of a document's text.
type reader struct {
	cursor
	nodes []api.Node
	// open is the Root, and the elements below it that are open, the innermost last.
	open []opened
	// decls are the declarations of all that is open, the nearest last.
	decls []api.Decl
	// text is of what stands side by side, of which there is no node yet.
	text []byte
}

// read answers the nodes of s, whose lines are ended; false, if it isn't a document's text.
// Whether the nodes are formed isn't asked.
func read(s string) ([]api.Node, bool) {
	r := reader{
		cursor: cursor{rest: behindDeclaration(s)},
		nodes:  []api.Node{{Kind: api.Root, Parent: -1}},
		open:   []opened{{}},
	}
	for r.rest != "" {
		if !r.next() {
			return nil, false
		}
	}
	return r.nodes, r.outside()
}

// next reads whatever stands there, and tells whether it may.
func (r *reader) next() bool {
	switch {
	case r.skip("<!--"):
		return r.comment()
	case r.skip("<![CDATA["):
		return r.data()
	case r.skip("<?"):
		return r.instruction()
	case r.skip("</"):
		return r.endTag()
	case r.skip("<"):
		return r.startTag()
	}
	return r.plain()
}

// innermost answers what is open and has nothing open below it.
func (r *reader) innermost() opened { return r.open[len(r.open)-1] }

// outside tells whether nothing but the Root is open.
func (r *reader) outside() bool { return len(r.open) == 1 }

// add lays a node below what is innermost, behind the text ahead of it, and answers its number.
func (r *reader) add(x api.Node) int {
	r.endText()
	return r.lay(x)
}

// endText makes a node of the texts that stand side by side.
func (r *reader) endText() {
	if len(r.text) > 0 {
		r.lay(api.Node{Kind: api.Text, Text: string(r.text)})
	}
	r.text = nil
}

func (r *reader) lay(x api.Node) int {
	x.Parent = r.innermost().node
	r.nodes = append(r.nodes, x)
	return len(r.nodes) - 1
}

func (r *reader) comment() bool {
	text, ok := r.through("-->")
	r.add(api.Node{Kind: api.Comment, Text: text})
	return ok
}

func (r *reader) instruction() bool {
	all, ok := r.through("?>")
	c := cursor{rest: all}
	target := c.upTo(blank)
	c.blanks()
	r.add(api.Node{Kind: api.Instruction, Local: target, Text: c.rest})
	return ok
}

func (r *reader) data() bool {
	text, ok := r.through("]]>")
	r.text = append(r.text, text...)
	return ok && !r.outside()
}

// plain reads what stands there up to the next <.
func (r *reader) plain() bool {
	s := r.upTo("<")
	if r.outside() {
		return name.Trim(s) == ""
	}
	text, ok := chars.Content(s)
	r.text = append(r.text, text...)
	return ok
}

package ident

import (
	"slices"
	"testing"

	"apostille/api"
	"apostille/doc"
)

// someMarks are attributes that name, and such as don't.
var someMarks = []api.Attr{
	{Local: "Id"}, {Local: "ID"}, {Local: "id"}, {Prefix: "xml", Local: "id", URI: xmlSpace},
	{Prefix: "p", Local: "id", URI: "u"}, {Prefix: "xml", Local: "Id", URI: xmlSpace},
}

// markings are all lists of up to so many of someMarks, each with one of two Values.
func markings(most int) [][]api.Attr {
	all := [][]api.Attr{nil}
	from := 0
	for range most {
		end := len(all)
		for _, l := range all[from:end] {
			for _, a := range someMarks {
				if slices.ContainsFunc(l, func(b api.Attr) bool { return a.Prefix == b.Prefix && a.Local == b.Local }) {
					continue
				}
				for _, v := range []string{"", "x"} {
					a.Value = v
					all = append(all, append(slices.Clone(l), a))
				}
			}
		}
		from = end
	}
	return all
}

// TestSmall has all documents of up to three elements with few attributes, one within the other and side by side.
func TestSmall(t *testing.T) {
	p := []api.Decl{{Prefix: "p", URI: "u"}}
	two, one := markings(2), markings(1)
	for _, parent := range []int{1, 2} {
		for _, first := range two {
			for _, second := range two {
				for _, third := range one {
					checkWords(t, documentOf(t, []api.Node{
						{Kind: api.Root, Parent: -1}, {Kind: api.Element, Parent: 0, Local: "a", Decls: p, Attrs: first},
						{Kind: api.Element, Parent: 1, Local: "b", Attrs: second}, {Kind: api.Element, Parent: parent, Local: "c", Attrs: third},
					}))
				}
			}
		}
	}
	for _, l := range markings(4) {
		checkWords(t, documentOf(t, []api.Node{{Kind: api.Root, Parent: -1}, {Kind: api.Element, Parent: 0, Local: "a", Decls: p, Attrs: l}}))
	}
	checkWords(t, &doc.Doc{})
}

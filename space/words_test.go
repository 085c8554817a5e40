package space

import (
	"bytes"
	"slices"
	"strconv"
	"strings"
	"testing"

	"apostille/api"
	"apostille/doc"
)

// The chapter's words, worked out anew, one by one and without haste.

func findByWords(l []api.Node, n int, prefix string) (string, bool) {
	if n < 0 || n >= len(l) || l[n].Kind != api.Element {
		return "", false
	}
	if prefix == "xml" {
		return xmlSpace, true
	}
	for ; n >= 0; n = l[n].Parent {
		for _, x := range l[n].Decls {
			if x.Prefix == prefix {
				return x.URI, x.Prefix != "" || x.URI != ""
			}
		}
	}
	return "", false
}

// prefixesOf are "", xml and all prefixes that l declares, rising.
func prefixesOf(l []api.Node) []string {
	all := [][]byte{{}, []byte("xml")}
	for _, x := range l {
		for _, y := range x.Decls {
			all = append(all, []byte(y.Prefix))
		}
	}
	slices.SortFunc(all, bytes.Compare)
	var each []string
	for _, p := range all {
		if len(each) == 0 || each[len(each)-1] != string(p) {
			each = append(each, string(p))
		}
	}
	return each
}

// checkWords holds what d has in scope at each number against the words, and Scope and Find against each other.
func checkWords(t *testing.T, d *doc.Doc) {
	t.Helper()
	l := d.Nodes()
	prefixes := prefixesOf(l)
	for n := -2; n < len(l)+2; n++ {
		var want []api.Decl
		for _, p := range prefixes {
			uri, ok := findByWords(l, n, p)
			if ok {
				want = append(want, api.Decl{Prefix: p, URI: uri})
			}
			if got, has := Find(d, n, p); got != uri || has != ok {
				t.Fatalf("%.999v, %d: %q is %q, %v, not %q, %v", l, n, p, got, has, uri, ok)
			}
		}
		scope := Scope(d, n)
		if !slices.Equal(scope, want) {
			t.Fatalf("%.999v, %d: %v, not %v", l, n, scope, want)
		}
		notFound(t, d, n, "xmlns", "notdeclared", "xm:", "\xff")
		checkAgree(t, d, n, prefixes)
	}
}

// checkAgree holds Scope and Find at n against each other.
func checkAgree(t *testing.T, d *doc.Doc, n int, prefixes []string) {
	t.Helper()
	scope := Scope(d, n)
	for i, x := range scope {
		if i > 0 && scope[i-1].Prefix >= x.Prefix {
			t.Fatalf("%d: %q ahead of %q", n, scope[i-1].Prefix, x.Prefix)
		}
		found(t, d, n, x.Prefix, x.URI)
	}
	for _, p := range prefixes {
		uri, ok := Find(d, n, p)
		if slices.Contains(scope, api.Decl{Prefix: p, URI: uri}) != ok {
			t.Fatalf("%d: %q is %q, %v, but %v is in scope", n, p, uri, ok, scope)
		}
	}
}

// below is an element below another node that declares l.
func below(parent int, l ...api.Decl) api.Node {
	return api.Node{Kind: api.Element, Parent: parent, Prefix: "xml", URI: xmlSpace, Local: "a", Decls: l}
}

// someDecls are lists of declarations of few prefixes.
func someDecls() [][]api.Decl {
	return [][]api.Decl{
		nil,
		{{Prefix: "", URI: "u"}},
		{{Prefix: "", URI: ""}},
		{{Prefix: "p", URI: "u"}},
		{{Prefix: "p", URI: "v"}, {Prefix: "", URI: "v"}},
		{{Prefix: "z", URI: "u"}, {Prefix: "p", URI: "u"}},
		{{Prefix: "xml", URI: xmlSpace}, {Prefix: "", URI: ""}, {Prefix: "p", URI: "w"}},
	}
}

// TestSmallDocuments goes through all documents of up to four elements that declare some of few prefixes.
func TestSmallDocuments(t *testing.T) {
	decls := someDecls()
	var grow func(l []api.Node)
	count := 0
	grow = func(l []api.Node) {
		if len(l) > 1 {
			checkWords(t, documentOf(t, l))
			count++
		}
		if len(l) == 5 {
			return
		}
		for p := len(l) - 1; p >= 0; p = l[p].Parent {
			if (p == 0) != (len(l) == 1) {
				continue
			}
			for _, x := range decls {
				grow(append(slices.Clip(l), below(p, x...)))
			}
		}
	}
	grow([]api.Node{{Parent: -1}})
	if want := 7 + 7*7 + 2*7*7*7 + 5*7*7*7*7; count != want {
		t.Errorf("%d documents, not %d", count, want)
	}
}

// TestOthersBetween has nodes that are no elements among the elements.
func TestOthersBetween(t *testing.T) {
	others := []api.Node{{Kind: api.Text, Text: "t"}, {Kind: api.Comment, Text: "c"}, {Kind: api.Instruction, Local: "i"}}
	for _, a := range someDecls() {
		for _, b := range someDecls() {
			for _, x := range others {
				for _, y := range others {
					ahead := x
					x.Parent, y.Parent, ahead.Parent = 1, 3, 1
					l := []api.Node{{Parent: -1}, below(0, a...), x, below(1, b...), y, below(3, a...), ahead}
					checkWords(t, documentOf(t, l))
				}
			}
		}
	}
}

// chain is elements, each below the one ahead, as many as may be, that declare what each is given by its number.
func chain(decls func(n int) []api.Decl) []api.Node {
	l := []api.Node{{Parent: -1}}
	for n := 1; n <= api.MaxDepth; n++ {
		l = append(l, below(n-1, decls(n)...))
	}
	return l
}

// TestEveryDepth declares one prefix at each depth anew, and one of each depth's own.
func TestEveryDepth(t *testing.T) {
	d := documentOf(t, chain(func(n int) []api.Decl {
		at := strconv.Itoa(n)
		return []api.Decl{{Prefix: "p", URI: "u" + at}, {Prefix: "p" + at, URI: "v" + at}, {Prefix: "", URI: strings.Repeat("w", n%3)}}
	}))
	for n := 1; n <= api.MaxDepth; n++ {
		found(t, d, n, "p", "u"+strconv.Itoa(n))
		size := n + 2
		if n%3 != 0 {
			found(t, d, n, "", strings.Repeat("w", n%3))
			size++
		} else {
			notFound(t, d, n, "")
		}
		for k := 1; k <= api.MaxDepth; k++ {
			if k <= n {
				found(t, d, n, "p"+strconv.Itoa(k), "v"+strconv.Itoa(k))
			} else {
				notFound(t, d, n, "p"+strconv.Itoa(k))
			}
		}
		if l := Scope(d, n); len(l) != size {
			t.Errorf("%d: %v", n, l)
		}
	}
	checkWords(t, d)
}

// TestOneDepth declares a prefix at one depth alone, and at two.
func TestOneDepth(t *testing.T) {
	for first := 1; first <= api.MaxDepth; first++ {
		for _, second := range []int{1, 2, first - 1, first, first + 1, api.MaxDepth} {
			d := documentOf(t, chain(func(n int) []api.Decl {
				if n == first {
					return []api.Decl{{Prefix: "p", URI: "u"}, {Prefix: "", URI: "v"}}
				}
				if n == second {
					return []api.Decl{{Prefix: "", URI: ""}, {Prefix: "p", URI: "w"}}
				}
				return nil
			}))
			checkWords(t, d)
		}
	}
}

// TestMostMarks has as many declarations as may be, at each depth.
func TestMostMarks(t *testing.T) {
	own := func(n int) []api.Decl {
		var l []api.Decl
		for i := range api.MaxMarks {
			l = append(l, api.Decl{Prefix: "p" + strconv.Itoa(i*100+n), URI: "u" + strconv.Itoa(i)})
		}
		return l
	}
	l := chain(own)
	d := documentOf(t, l)
	deepest := Scope(d, api.MaxDepth)
	if len(deepest) != api.MaxDepth*api.MaxMarks+1 || deepest[len(deepest)-1].Prefix != "xml" {
		t.Error(len(deepest))
	}
	for _, p := range prefixesOf(l) {
		uri, ok := findByWords(l, api.MaxDepth, p)
		if ok {
			found(t, d, api.MaxDepth, p, uri)
		} else {
			notFound(t, d, api.MaxDepth, p)
		}
	}
	// The same prefixes at each depth.
	checkWords(t, documentOf(t, chain(func(n int) []api.Decl { return own(1) })))
}

// TestMostNodes has as many elements as may be.
func TestMostNodes(t *testing.T) {
	l := []api.Node{{Parent: -1}, below(0, api.Decl{Prefix: "p", URI: "u"})}
	for len(l) < api.MaxNodes {
		l = append(l, below(1, someDecls()[len(l)%7]...))
	}
	checkWords(t, documentOf(t, l))
}

package doc

import (
	"math"
	"strings"
	"testing"

	"apostille/api"
)

// fine fails if l is no document.
func fine(t *testing.T, what string, l []api.Node) {
	t.Helper()
	if d, e := Of(l); e != api.OK || d == nil || d.Len() != len(l) {
		t.Errorf("%.80q: %v", what, e)
	}
}

// refused fails if Of(l) isn't that error, with nothing beside it.
func refused(t *testing.T, what string, l []api.Node, want api.Errno) {
	t.Helper()
	if d, e := Of(l); e != want || d != nil {
		t.Errorf("%.80q: %v, not %v", what, e, want)
	}
}

func root() api.Node { return api.Node{Kind: api.Root, Parent: -1} }

// below is a list with x as the only child of the Root's element, which declares p, q and "" (as d).
func below(x api.Node) []api.Node {
	x.Parent = 1
	return []api.Node{root(), {Kind: api.Element, Local: "top", URI: "d", Decls: []api.Decl{{Prefix: "p", URI: "u"}, {Prefix: "q", URI: "v"}, {URI: "d"}}}, x}
}

// rich is a list with all there may be: <!--c--><?go x?><a xmlns="d" xmlns:p="u" k="v" p:k="w">t<p:b
// xmlns:p="v" xmlns="" xml:lang="en"><c/>t</p:b>t<!----><d/><?go?></a><!--c-->
func rich() []api.Node {
	return []api.Node{
		root(),
		{Kind: api.Comment, Parent: 0, Text: "c"},
		{Kind: api.Instruction, Parent: 0, Local: "go", Text: "x"},
		{Kind: api.Element, Parent: 0, Local: "a", URI: "d", Decls: []api.Decl{{URI: "d"}, {Prefix: "p", URI: "u"}}, Attrs: []api.Attr{{Local: "k", Value: "v"}, {Prefix: "p", Local: "k", URI: "u", Value: "w"}}},
		{Kind: api.Text, Parent: 3, Text: "t"},
		{Kind: api.Element, Parent: 3, Prefix: "p", Local: "b", URI: "v", Decls: []api.Decl{{Prefix: "p", URI: "v"}, {}}, Attrs: []api.Attr{{Prefix: "xml", Local: "lang", URI: xmlSpace, Value: "en"}}},
		{Kind: api.Element, Parent: 5, Local: "c"},
		{Kind: api.Text, Parent: 5, Text: "t"},
		{Kind: api.Text, Parent: 3, Text: "t"},
		{Kind: api.Comment, Parent: 3},
		{Kind: api.Element, Parent: 3, Local: "d", URI: "d"},
		{Kind: api.Instruction, Parent: 3, Local: "go"},
		{Kind: api.Comment, Parent: 0, Text: "c"},
	}
}

func TestRich(t *testing.T) {
	l := rich()
	d, e := Of(l)
	if e != api.OK {
		t.Fatal(e)
	}
	checkTells(t, d, l)
	// The whole of it is needed: of its beginnings those alone are formed that end with a node behind the element's beginning.
	for n := range l {
		if n < 4 {
			refused(t, "a beginning", l[:n], api.ErrForm)
		} else {
			fine(t, "a beginning", l[:n])
		}
	}
}

func TestNoNodes(t *testing.T) {
	refused(t, "nil", nil, api.ErrForm)
	refused(t, "empty", []api.Node{}, api.ErrForm)
	refused(t, "spare room alone", rich()[:0], api.ErrForm)
}

// TestEmptyLists has lists of no elements, which mean the same as nil.
func TestEmptyLists(t *testing.T) {
	l := rich()
	for i := range l {
		if l[i].Decls == nil {
			l[i].Decls = []api.Decl{}
		}
		if l[i].Attrs == nil {
			l[i].Attrs = make([]api.Attr, 0, 3)
		}
	}
	fine(t, "empty lists", l)
}

func TestRoot(t *testing.T) {
	for what, change := range map[string]func(x *api.Node){
		"Parent 0":        func(x *api.Node) { x.Parent = 0 },
		"Parent 1":        func(x *api.Node) { x.Parent = 1 },
		"Parent -2":       func(x *api.Node) { x.Parent = -2 },
		"Parent far":      func(x *api.Node) { x.Parent = math.MaxInt },
		"Parent far back": func(x *api.Node) { x.Parent = math.MinInt },
		"Prefix":          func(x *api.Node) { x.Prefix = "p" },
		"Local":           func(x *api.Node) { x.Local = "a" },
		"URI":             func(x *api.Node) { x.URI = "u" },
		"Text":            func(x *api.Node) { x.Text = "t" },
		"Decls":           func(x *api.Node) { x.Decls = []api.Decl{{Prefix: "p", URI: "u"}} },
		"a zero Decl":     func(x *api.Node) { x.Decls = []api.Decl{{}} },
		"Attrs":           func(x *api.Node) { x.Attrs = []api.Attr{{Local: "x"}} },
		"a zero Attr":     func(x *api.Node) { x.Attrs = []api.Attr{{}} },
		"Element":         func(x *api.Node) { x.Kind, x.Local = api.Element, "a" },
		"a bare Element":  func(x *api.Node) { x.Kind = api.Element },
		"a bare Text":     func(x *api.Node) { x.Kind = api.Text },
		"Text's Kind":     func(x *api.Node) { x.Kind, x.Text = api.Text, "t" },
		"Comment":         func(x *api.Node) { x.Kind = api.Comment },
		"Instruction":     func(x *api.Node) { x.Kind, x.Local = api.Instruction, "a" },
		"Kind -1":         func(x *api.Node) { x.Kind = -1 },
		"Kind 5":          func(x *api.Node) { x.Kind = 5 },
	} {
		l := rich()
		change(&l[0])
		refused(t, "the Root: "+what, l, api.ErrForm)
	}
	refused(t, "no Root", rich()[1:], api.ErrForm)
	refused(t, "a Root alone", []api.Node{root()}, api.ErrForm)
	// A Root elsewhere: in each place, below all that may have children.
	l := rich()
	for i := 1; i < len(l); i++ {
		for _, parent := range append([]int{-1, i - 1, i}, aboveByWords(l, i-1)...) {
			more := append(append(append([]api.Node{}, l[:i]...), api.Node{Parent: parent}), l[i:]...)
			for k := i + 1; k < len(more); k++ {
				if more[k].Parent >= i {
					more[k].Parent++
				}
			}
			refused(t, "another Root", more, api.ErrForm)
		}
	}
	refused(t, "another Root at the end", append(rich(), api.Node{Parent: 0}), api.ErrForm)
	refused(t, "another Root at the end", append(rich(), root()), api.ErrForm)
}

// TestParents sets each node's Parent to all there is, and to what there isn't.
func TestParents(t *testing.T) {
	l := rich()
	for i := 1; i < len(l); i++ {
		may := append([]int{i - 1}, aboveByWords(l, i-1)...)
		for p := -3; p < len(l)+3; p++ {
			c := append([]api.Node{}, l[:i+1]...)
			c[i].Parent = p
			placed := false
			for _, m := range may {
				placed = placed || m == p && (l[m].Kind == api.Root || l[m].Kind == api.Element)
			}
			if !placed {
				refused(t, "a Parent that may not be", c, api.ErrForm)
			}
		}
		for _, p := range []int{math.MinInt, math.MinInt + 1, math.MinInt32, -1 << 40, 1 << 40, math.MaxInt32, math.MaxInt - 1, math.MaxInt} {
			c := rich()
			c[i].Parent = p
			refused(t, "a Parent far off", c, api.ErrForm)
		}
	}
	// Each of these breaks one word.
	a := func(parent int) api.Node { return simple(api.Element, parent) }
	for what, l := range map[string][]api.Node{
		"itself":                    {root(), a(0), a(2)},
		"behind it":                 {root(), a(0), a(3), a(1)},
		"right behind it":           {root(), a(0), a(1), a(4), a(1)},
		"-1":                        {root(), a(0), a(-1)},
		"no node":                   {root(), a(0), a(9)},
		"as many as nodes":          {root(), a(0), a(3)},
		"ended by its brother":      {root(), a(0), a(1), a(1), a(2)},
		"ended by its uncle":        {root(), a(0), a(1), a(2), a(1), a(3)},
		"ended by its uncle, above": {root(), a(0), a(1), a(2), a(1), a(2)},
		"ended by a Text":           {root(), a(0), a(1), simple(api.Text, 1), a(2)},
		"the element, when ended":   {root(), a(0), simple(api.Comment, 0), simple(api.Text, 1)},
		"a Text":                    {root(), a(0), simple(api.Text, 1), a(2)},
		"a Comment":                 {root(), a(0), simple(api.Comment, 1), a(2)},
		"an Instruction":            {root(), a(0), simple(api.Instruction, 1), a(2)},
		"a Comment below the Root":  {root(), simple(api.Comment, 0), a(0), a(1)},
		"a Comment with an element": {root(), simple(api.Comment, 0), a(1)},
		"an Instruction with one":   {root(), simple(api.Instruction, 0), a(1)},
		"a Text of a Text":          {root(), a(0), simple(api.Text, 1), simple(api.Text, 2)},
		"a Comment of a Comment":    {root(), a(0), simple(api.Comment, 1), simple(api.Comment, 2)},
	} {
		refused(t, "Parent: "+what, l, api.ErrForm)
	}
	for what, l := range map[string][]api.Node{
		"a chain":    {root(), a(0), a(1), a(2), a(3)},
		"brothers":   {root(), a(0), a(1), a(1), a(1)},
		"an uncle":   {root(), a(0), a(1), a(2), a(1), a(4)},
		"up by many": {root(), a(0), a(1), a(2), a(3), a(4), a(1), a(6), simple(api.Comment, 0)},
	} {
		fine(t, "Parent: "+what, l)
	}
}

func TestRootsChildren(t *testing.T) {
	element, text, comment, instruction := simple(api.Element, 0), simple(api.Text, 0), simple(api.Comment, 0), simple(api.Instruction, 0)
	for what, l := range map[string][]api.Node{
		"one element":   {element},
		"with comments": {comment, comment, element, comment, comment},
		"with others":   {instruction, comment, element, instruction, comment, instruction},
	} {
		fine(t, what, append([]api.Node{root()}, l...))
	}
	blank := text
	blank.Text = "\n"
	for what, l := range map[string][]api.Node{
		"nothing":                 {},
		"no element":              {comment, instruction, comment},
		"two elements":            {element, element},
		"two elements, apart":     {element, comment, element},
		"three elements":          {element, element, element},
		"a Text ahead":            {text, element},
		"a Text behind":           {element, text},
		"a Text between":          {comment, text, instruction, element},
		"a Text alone":            {text},
		"blanks":                  {element, blank},
		"a Text in place of one":  {text, comment},
		"an element below itself": {comment, simple(api.Element, 2)},
	} {
		refused(t, what, append([]api.Node{root()}, l...), api.ErrForm)
	}
	inner := []api.Node{root(), element, simple(api.Element, 1), simple(api.Element, 2)}
	fine(t, "elements below the element", inner)
	refused(t, "a second one behind those", append(inner, element), api.ErrForm)
}

// TestKinds has Kinds that there aren't, with what other Kinds may have.
func TestKinds(t *testing.T) {
	for _, kind := range []int{math.MinInt, -2, -1, api.Root, 5, 6, 7, 256, 257, 1 << 32, 1<<32 + 1, math.MaxInt} {
		for _, x := range []api.Node{{}, {Local: "a"}, {Text: "t"}, {Local: "a", Text: "t"}, {Local: "a", URI: "d"}, {Local: "a", Prefix: "p", URI: "u"}} {
			x.Kind = kind
			refused(t, "a Kind that there isn't", below(x), api.ErrForm)
			x.Parent = 0
			refused(t, "a Kind that there isn't, below the Root", append(rich(), x), api.ErrForm)
			refused(t, "a Kind that there isn't, below the Root", append([]api.Node{root(), x}, simple(api.Element, 0)), api.ErrForm)
		}
	}
}

// TestOtherFields sets of each Kind each field that isn't named to something that isn't zero.
func TestOtherFields(t *testing.T) {
	fields := map[string]func(x *api.Node){
		"Prefix":      func(x *api.Node) { x.Prefix = "p" },
		"Local":       func(x *api.Node) { x.Local = "a" },
		"URI":         func(x *api.Node) { x.URI = "d" },
		"Text":        func(x *api.Node) { x.Text = "t" },
		"Decls":       func(x *api.Node) { x.Decls = []api.Decl{{Prefix: "r", URI: "w"}} },
		"a zero Decl": func(x *api.Node) { x.Decls = []api.Decl{{}} },
		"Attrs":       func(x *api.Node) { x.Attrs = []api.Attr{{Local: "x", Value: "1"}} },
		"a zero Attr": func(x *api.Node) { x.Attrs = []api.Attr{{}} },
	}
	named := map[int]string{api.Element: " Prefix Local URI Decls Attrs a zero Decl a zero Attr ", api.Text: " Text ", api.Comment: " Text ", api.Instruction: " Local Text "}
	for kind, own := range named {
		for what, set := range fields {
			x := simple(kind, 1)
			if kind == api.Element {
				x.URI = "d"
			}
			fine(t, "a simple node", below(x))
			if strings.Contains(own, " "+what+" ") {
				continue
			}
			set(&x)
			refused(t, what, below(x), api.ErrForm)
			x.Parent = 0
			if kind == api.Comment || kind == api.Instruction {
				refused(t, what, append(rich(), x), api.ErrForm)
			}
		}
	}
	refused(t, "a blank as Text of an element", below(api.Node{Kind: api.Element, Local: "a", URI: "d", Text: " "}), api.ErrForm)
}

// What is a name, is text, and is neither.
var (
	goodNames = []string{"a", "_", "a-1.b", "A.", "xml", "xmlns", "XML", "xmlx", "\u00e9", "\u6587\u66f8", "a\u00b7", "\ufffd", "\U00010000", strings.Repeat("a", 5000)}
	badNames  = []string{"1", "-", ".", ":", "a:b", "p:", ":a", "p:a", " ", " a", "a ", "a b", "a\n", "a/b", "\u00d7", "\u00b7", "\x00", "a\x00", "\xff", "a\xff", "\xc3", "\xed\xa0\x80", "\uffff", "a\uffff", "a*", "*"}
	goodTexts = []string{"a", " ", "\t\n\r ", "a b", "<", "&", "&amp;", "]]>", "\"'", "\u0085", "\u00a0", "\ud7ff", "\ue000", "\ufffd", "\ufeff", "\U00010000", "\U0010ffff", "xml", "xmlns", xmlSpace + "a", "#", strings.Repeat("\u6587 ", 5000)}
	badTexts  = []string{"\x00", "\x01", "\x08", "\x0b", "\x0c", "\x0e", "\x1f", "a\x00", "\x00a", "a\x1fb", "\x80", "\xff", "a\xff", "\xc3", "\xa9", "\xc0\x80", "\xed\xa0\x80", "\xed\xbf\xbf", "\ufffe", "\uffff", "a\uffffb", "\xf4\x90\x80\x80", "\xe2\x82"}
)

func TestElementNames(t *testing.T) {
	element := func(prefix, local, uri string) []api.Node {
		return below(api.Node{Kind: api.Element, Prefix: prefix, Local: local, URI: uri})
	}
	for _, s := range goodNames {
		fine(t, "Local "+s, element("", s, "d"))
		fine(t, "Local "+s, element("p", s, "u"))
		refused(t, "a prefix that isn't declared: "+s, element(s, "a", "u"), api.ErrForm)
		refused(t, "a prefix that isn't declared: "+s, element(s, "a", ""), api.ErrForm)
		refused(t, "a prefix that isn't declared: "+s, element(s, "a", "d"), api.ErrForm)
		top := []api.Node{root(), {Kind: api.Element, Local: s}}
		fine(t, "the Root's element's Local "+s, top)
	}
	for _, s := range append([]string{""}, badNames...) {
		refused(t, "Local "+s, element("", s, "d"), api.ErrForm)
		refused(t, "Local "+s, element("p", s, "u"), api.ErrForm)
		refused(t, "the Root's element's Local "+s, []api.Node{root(), {Kind: api.Element, Local: s}}, api.ErrForm)
	}
	for _, s := range badNames {
		for _, uri := range []string{"", "u", "d", s} {
			refused(t, "Prefix "+s, element(s, "a", uri), api.ErrForm)
		}
		x := api.Node{Kind: api.Element, Prefix: s, Local: "a", URI: "u", Decls: []api.Decl{{Prefix: s, URI: "u"}}}
		refused(t, "Prefix "+s+", declared", below(x), api.ErrForm)
	}
	fine(t, "no prefix", element("", "a", "d"))
	fine(t, "a prefix", element("p", "a", "u"))
	for what, l := range map[string][]api.Node{
		"another URI":           element("p", "a", "v"),
		"no URI":                element("p", "a", ""),
		"the default URI":       element("p", "a", "d"),
		"more than the URI":     element("p", "a", "uu"),
		"in other letters":      element("p", "a", "U"),
		"the prefix as URI":     element("p", "a", "p"),
		"another prefix":        element("P", "a", "u"),
		"not the default URI":   element("", "a", "u"),
		"without the default":   element("", "a", ""),
		"a prefix not declared": element("r", "a", "u"),
		"one without a URI":     element("r", "a", ""),
		"a URI that isn't text": element("p", "a", "\x00"),
		"a default that isn't":  element("", "a", "\xff"),
		"the URI with a blank":  element("p", "a", "u "),
		"the default with one":  element("", "a", " d"),
		"the default as D":      element("", "a", "D"),
	} {
		refused(t, what, l, api.ErrForm)
	}
	fine(t, "no URI, without a declaration", []api.Node{root(), {Kind: api.Element, Local: "a"}})
	refused(t, "a URI, without a declaration", []api.Node{root(), {Kind: api.Element, Local: "a", URI: "u"}}, api.ErrForm)
	refused(t, "a prefix, without a declaration", []api.Node{root(), {Kind: api.Element, Prefix: "p", Local: "a", URI: "u"}}, api.ErrForm)
	refused(t, "a prefix, without a declaration", []api.Node{root(), {Kind: api.Element, Prefix: "p", Local: "a"}}, api.ErrForm)
}

// declares is a list with an element that has just these declarations.
func declares(l ...api.Decl) []api.Node {
	return below(api.Node{Kind: api.Element, Prefix: "xml", Local: "a", URI: xmlSpace, Decls: l})
}

func TestDeclarations(t *testing.T) {
	for _, s := range goodNames {
		if s != "xml" && s != "xmlns" {
			fine(t, "a declaration of "+s, declares(api.Decl{Prefix: s, URI: "u"}))
		}
	}
	for _, s := range badNames {
		refused(t, "a declaration of "+s, declares(api.Decl{Prefix: s, URI: "u"}), api.ErrForm)
	}
	for _, s := range goodTexts {
		fine(t, "a declaration as "+s, declares(api.Decl{Prefix: "p", URI: s}))
		fine(t, "a declaration of nothing as "+s, declares(api.Decl{URI: s}))
	}
	for _, s := range badTexts {
		refused(t, "a declaration as "+s, declares(api.Decl{Prefix: "p", URI: s}), api.ErrForm)
		refused(t, "a declaration of nothing as "+s, declares(api.Decl{URI: s}), api.ErrForm)
	}
	fine(t, "nothing as nothing", declares(api.Decl{}))
	refused(t, "p as nothing", declares(api.Decl{Prefix: "p"}), api.ErrForm)
	p, q, r, none := api.Decl{Prefix: "p", URI: "u"}, api.Decl{Prefix: "q", URI: "u"}, api.Decl{Prefix: "r", URI: "u"}, api.Decl{URI: "u"}
	fine(t, "of one URI", declares(p, q, r, none))
	for what, l := range map[string][]api.Decl{
		"p twice":               {p, p},
		"p twice, others":       {p, {Prefix: "p", URI: "v"}},
		"p twice, apart":        {p, q, none, r, p},
		"nothing twice":         {none, none},
		"nothing twice, others": {none, {URI: "v"}},
		"nothing as nothing":    {{}, {}},
		"nothing, and as such":  {none, {}},
		"the last one's":        {q, r, none, p, p},
		"xml twice":             {{Prefix: "xml", URI: xmlSpace}, {Prefix: "xml", URI: xmlSpace}},
		"the last one is wrong": {q, r, none, {Prefix: "1", URI: "u"}},
		"the first one is":      {{Prefix: "1", URI: "u"}, q, r, none},
	} {
		refused(t, what, declares(l...), api.ErrForm)
	}
}

// marked is a list with an element that declares r as u and s as w, and has just these attributes.
func marked(l ...api.Attr) []api.Node {
	return below(api.Node{Kind: api.Element, Prefix: "p", Local: "a", URI: "u", Decls: []api.Decl{{Prefix: "r", URI: "u"}, {Prefix: "s", URI: "w"}}, Attrs: l})
}

func TestAttributes(t *testing.T) {
	for _, s := range goodNames {
		if s != "xmlns" {
			fine(t, "an attribute "+s, marked(api.Attr{Local: s}))
		}
		fine(t, "an attribute p:"+s, marked(api.Attr{Prefix: "p", Local: s, URI: "u"}))
		for _, uri := range []string{"", "u", "d"} {
			refused(t, "an attribute with the prefix "+s, marked(api.Attr{Prefix: s, Local: "x", URI: uri}), api.ErrForm)
		}
	}
	for _, s := range append([]string{""}, badNames...) {
		refused(t, "an attribute "+s, marked(api.Attr{Local: s}), api.ErrForm)
		refused(t, "an attribute p:"+s, marked(api.Attr{Prefix: "p", Local: s, URI: "u"}), api.ErrForm)
	}
	for _, s := range badNames {
		for _, uri := range []string{"", "u", "d"} {
			refused(t, "an attribute with the prefix "+s, marked(api.Attr{Prefix: s, Local: "x", URI: uri}), api.ErrForm)
		}
	}
	for _, s := range append([]string{"", xmlSpace, xmlnsSpace}, goodTexts...) {
		fine(t, "a value "+s, marked(api.Attr{Local: "x", Value: s}))
		fine(t, "a value "+s, marked(api.Attr{Prefix: "p", Local: "x", URI: "u", Value: s}))
	}
	for _, s := range badTexts {
		refused(t, "a value "+s, marked(api.Attr{Local: "x", Value: s}), api.ErrForm)
		refused(t, "a value "+s, marked(api.Attr{Prefix: "p", Local: "x", URI: "u", Value: s}), api.ErrForm)
	}
}

// TestOneAttribute has attributes of which one word is broken, and such as stand at the edge of it.
func TestOneAttribute(t *testing.T) {
	for what, a := range map[string]api.Attr{
		"a URI without a prefix":   {Local: "x", URI: "u"},
		"the default URI":          {Local: "x", URI: "d"},
		"no URI":                   {Prefix: "p", Local: "x"},
		"another URI":              {Prefix: "p", Local: "x", URI: "v"},
		"the default one's":        {Prefix: "p", Local: "x", URI: "d"},
		"a prefix not declared":    {Prefix: "z", Local: "x", URI: "u"},
		"a prefix of others":       {Prefix: "q", Local: "x", URI: "u"},
		"a URI in other letters":   {Prefix: "p", Local: "x", URI: "U"},
		"a prefix in others":       {Prefix: "P", Local: "x", URI: "u"},
		"a URI that isn't text":    {Prefix: "p", Local: "x", URI: "\x00"},
		"xmlns, without a prefix":  {Local: "xmlns"},
		"xmlns, with a value":      {Local: "xmlns", Value: "u"},
		"xmlns, with its URI":      {Local: "xmlns", URI: xmlnsSpace},
		"xmlns as a prefix":        {Prefix: "xmlns", Local: "x", URI: xmlnsSpace},
		"xmlns as one with no URI": {Prefix: "xmlns", Local: "p"},
		"xmlns, xmlns":             {Prefix: "xmlns", Local: "xmlns", URI: xmlnsSpace},
	} {
		refused(t, what, marked(a), api.ErrForm)
		refused(t, what+", behind another one", marked(api.Attr{Local: "other"}, a), api.ErrForm)
		refused(t, what+", ahead of another one", marked(a, api.Attr{Local: "other"}), api.ErrForm)
	}
	for what, a := range map[string]api.Attr{
		"declared above":       {Prefix: "q", Local: "x", URI: "v"},
		"declared here":        {Prefix: "s", Local: "x", URI: "w"},
		"p:xmlns":              {Prefix: "p", Local: "xmlns", URI: "u"},
		"XMLNS":                {Local: "XMLNS"},
		"xml":                  {Local: "xml"},
		"p:p":                  {Prefix: "p", Local: "p", URI: "u"},
		"the same as its own":  {Prefix: "p", Local: "a", URI: "u"},
		"its own, without one": {Local: "a"},
	} {
		fine(t, what, marked(a))
	}
}

func TestAttributesTwice(t *testing.T) {
	x, y := api.Attr{Local: "x"}, api.Attr{Local: "y"}
	px, py := api.Attr{Prefix: "p", Local: "x", URI: "u"}, api.Attr{Prefix: "p", Local: "y", URI: "u"}
	rx, sx := api.Attr{Prefix: "r", Local: "x", URI: "u"}, api.Attr{Prefix: "s", Local: "x", URI: "w"}
	fine(t, "all others", marked(x, y, px, py, sx, api.Attr{Prefix: "q", Local: "x", URI: "v"}))
	fine(t, "by another prefix", marked(x, rx, py))
	other := x
	other.Value = "other"
	for what, l := range map[string][]api.Attr{
		"x twice":                  {x, x},
		"x twice, of other values": {x, other},
		"x twice, apart":           {x, px, y, x},
		"p:x twice":                {px, px},
		"p:x and r:x":              {px, rx},
		"r:x and p:x, apart":       {rx, x, py, sx, px},
		"the last two":             {y, py, sx, x, x},
	} {
		refused(t, what, marked(l...), api.ErrForm)
	}
	// An attribute without a prefix isn't in the default namespace.
	l := []api.Node{root(), {Kind: api.Element, Local: "a", URI: "u", Decls: []api.Decl{{URI: "u"}, {Prefix: "p", URI: "u"}}, Attrs: []api.Attr{x, px}}}
	fine(t, "x and p:x", l)
	// A Local and a URI aren't to be laid together.
	l = []api.Node{root(), {Kind: api.Element, Local: "a", Decls: []api.Decl{{Prefix: "p", URI: "bc"}, {Prefix: "q", URI: "c"}}, Attrs: []api.Attr{{Prefix: "p", Local: "a", URI: "bc"}, {Prefix: "q", Local: "ab", URI: "c"}}}}
	fine(t, "a bc and ab c", l)
}

// TestReservedDeclarations has xml, xmlns and what they mean in declarations.
func TestReservedDeclarations(t *testing.T) {
	for _, c := range []struct {
		prefix, uri string
		ok          bool
	}{
		{"xml", xmlSpace, true}, {"xml", "u", false}, {"xml", "", false}, {"xml", xmlnsSpace, false}, {"xml", "xml", false}, {"xml", xmlSpace + "/", false}, {"xml", "d", false},
		{"p", xmlSpace, false}, {"", xmlSpace, false}, {"XML", xmlSpace, false}, {"xmlns", xmlSpace, false}, {"Xml", xmlSpace, false},
		{"xmlns", xmlnsSpace, false}, {"xmlns", "u", false}, {"xmlns", "", false}, {"xmlns", "xmlns", false},
		{"p", xmlnsSpace, false}, {"", xmlnsSpace, false}, {"XMLNS", xmlnsSpace, false},
		{"XML", "u", true}, {"XMLNS", "u", true}, {"xmlnsx", "u", true}, {"xmlx", "u", true}, {"xm", "u", true},
		{"p", xmlSpace + "/", true}, {"p", xmlnsSpace + "a", true}, {"p", "http://www.w3.org/2000/xmlns", true}, {"p", "HTTP://www.w3.org/XML/1998/namespace", true}, {"p", "http://www.w3.org/xml/1998/namespace", true}, {"p", "xml", true}, {"p", "xmlns", true}, {"", "xml", true}, {"", "xmlns", true},
	} {
		what := "a declaration of " + c.prefix + " as " + c.uri
		l := declares(api.Decl{Prefix: c.prefix, URI: c.uri})
		both := declares(api.Decl{Prefix: "z", URI: "z"}, api.Decl{Prefix: c.prefix, URI: c.uri})
		if c.ok {
			fine(t, what, l)
			fine(t, what, both)
		} else {
			refused(t, what, l, api.ErrForm)
			refused(t, what, both, api.ErrForm)
		}
	}
}

// TestReservedNames has xml, xmlns and what they mean as elements' and attributes' names.
func TestReservedNames(t *testing.T) {
	for _, uri := range []string{"", "d", "u", xmlSpace, xmlnsSpace, xmlSpace + "/"} {
		for _, prefix := range []string{"xml", "xmlns", "XML", "", "p"} {
			x := api.Node{Kind: api.Element, Prefix: prefix, Local: "a", URI: uri}
			a := api.Attr{Prefix: prefix, Local: "x", URI: uri}
			element := prefix == "xml" && uri == xmlSpace || prefix == "" && uri == "d" || prefix == "p" && uri == "u"
			attribute := prefix == "xml" && uri == xmlSpace || prefix == "" && uri == "" || prefix == "p" && uri == "u"
			if element {
				fine(t, "an element of "+prefix+" and "+uri, below(x))
			} else {
				refused(t, "an element of "+prefix+" and "+uri, below(x), api.ErrForm)
			}
			if attribute {
				fine(t, "an attribute of "+prefix+" and "+uri, marked(a))
			} else {
				refused(t, "an attribute of "+prefix+" and "+uri, marked(a), api.ErrForm)
			}
		}
	}
	// xml means XML, declared or not, above or here.
	lang := api.Attr{Prefix: "xml", Local: "lang", URI: xmlSpace}
	decl := []api.Decl{{Prefix: "xml", URI: xmlSpace}}
	fine(t, "xml of the Root's element", []api.Node{root(), {Kind: api.Element, Prefix: "xml", Local: "a", URI: xmlSpace, Attrs: []api.Attr{lang}}})
	fine(t, "xml, declared here", []api.Node{root(), {Kind: api.Element, Prefix: "xml", Local: "a", URI: xmlSpace, Decls: decl, Attrs: []api.Attr{lang}}})
	fine(t, "xml, declared above", []api.Node{root(), {Kind: api.Element, Local: "a", Decls: decl}, {Kind: api.Element, Parent: 1, Prefix: "xml", Local: "a", URI: xmlSpace, Attrs: []api.Attr{lang}}})
	fine(t, "xml:xmlns and xml:xml", marked(api.Attr{Prefix: "xml", Local: "xmlns", URI: xmlSpace}, api.Attr{Prefix: "xml", Local: "xml", URI: xmlSpace}))
	fine(t, "p:xmlns and p:xml", marked(api.Attr{Prefix: "p", Local: "xmlns", URI: "u"}, api.Attr{Prefix: "p", Local: "xml", URI: "u"}))
	fine(t, "an element xmlns", below(api.Node{Kind: api.Element, Local: "xmlns", URI: "d"}))
	fine(t, "an element p:xmlns", below(api.Node{Kind: api.Element, Prefix: "p", Local: "xmlns", URI: "u"}))
	fine(t, "an element xml", below(api.Node{Kind: api.Element, Local: "xml", URI: "d"}))
	fine(t, "an element xml:xml", below(api.Node{Kind: api.Element, Prefix: "xml", Local: "xml", URI: xmlSpace}))
	refused(t, "xml:lang twice", marked(lang, lang), api.ErrForm)
	for _, s := range []string{"xml", "xmlns", xmlSpace, xmlnsSpace} {
		fine(t, "a Text", below(api.Node{Kind: api.Text, Text: s}))
		fine(t, "a Comment", below(api.Node{Kind: api.Comment, Text: s}))
		fine(t, "an Instruction's Text", below(api.Node{Kind: api.Instruction, Local: "a", Text: s}))
		fine(t, "a value", marked(api.Attr{Local: "x", Value: s}))
	}
}

func as(prefix, uri string) []api.Decl { return []api.Decl{{Prefix: prefix, URI: uri}} }

// at is an element that declares l, and means the same wherever it stands.
func at(parent int, l []api.Decl) api.Node {
	return api.Node{Kind: api.Element, Parent: parent, Prefix: "xml", Local: "a", URI: xmlSpace, Decls: l}
}

// TestNearest has prefixes that are declared above, nearer, elsewhere, and not at all.
func TestNearest(t *testing.T) {
	for _, prefix := range []string{"p", ""} {
		is := func(parent int, uri string, l []api.Decl) api.Node {
			return api.Node{Kind: api.Element, Parent: parent, Prefix: prefix, Local: "a", URI: uri, Decls: l}
		}
		has := func(parent int, uri string, l []api.Decl) api.Node {
			x := at(parent, l)
			x.Attrs = []api.Attr{{Prefix: prefix, Local: "x", URI: uri}}
			return x
		}
		places := []func(parent int, uri string, l []api.Decl) api.Node{is, has}
		if prefix == "" {
			// An attribute without a prefix has no URI, whatever is declared.
			places = places[:1]
		}
		for _, x := range places {
			for _, c := range []struct {
				what string
				l    []api.Node
				ok   bool
			}{
				{"here", []api.Node{x(0, "u", as(prefix, "u"))}, true},
				{"here, another", []api.Node{x(0, "v", as(prefix, "u"))}, false},
				{"right above", []api.Node{at(0, as(prefix, "u")), x(1, "u", nil)}, true},
				{"right above, another", []api.Node{at(0, as(prefix, "u")), x(1, "v", nil)}, false},
				{"far above", []api.Node{at(0, as(prefix, "u")), at(1, nil), at(2, nil), x(3, "u", nil)}, true},
				{"far above, another", []api.Node{at(0, as(prefix, "u")), at(1, nil), at(2, nil), x(3, "", nil)}, false},
				{"nearer", []api.Node{at(0, as(prefix, "u")), at(1, as(prefix, "v")), x(2, "v", nil)}, true},
				{"not the farther one", []api.Node{at(0, as(prefix, "u")), at(1, as(prefix, "v")), x(2, "u", nil)}, false},
				{"here, ahead of above", []api.Node{at(0, as(prefix, "u")), x(1, "v", as(prefix, "v"))}, true},
				{"above, though here", []api.Node{at(0, as(prefix, "u")), x(1, "u", as(prefix, "v"))}, false},
				{"three times", []api.Node{at(0, as(prefix, "u")), at(1, as(prefix, "v")), at(2, as(prefix, "w")), x(3, "w", nil)}, true},
				{"as the same again", []api.Node{at(0, as(prefix, "u")), at(1, as(prefix, "u")), x(2, "u", nil)}, true},
				{"behind the nearer one", []api.Node{at(0, as(prefix, "u")), at(1, as(prefix, "v")), x(2, "v", nil), x(1, "u", nil)}, true},
				{"the nearer one's, behind it", []api.Node{at(0, as(prefix, "u")), at(1, as(prefix, "v")), x(2, "v", nil), x(1, "v", nil)}, false},
				{"behind two that are ended", []api.Node{at(0, as(prefix, "u")), at(1, as(prefix, "v")), at(2, as(prefix, "w")), x(3, "w", nil), x(1, "u", nil), x(1, "u", nil)}, true},
				{"in between, behind one", []api.Node{at(0, as(prefix, "u")), at(1, as(prefix, "v")), at(2, as(prefix, "w")), x(2, "v", nil), x(1, "u", nil)}, true},
				{"of its brother", []api.Node{at(0, nil), at(1, as(prefix, "u")), x(1, "u", nil)}, false},
				{"of its brother's child", []api.Node{at(0, nil), at(1, nil), at(2, as(prefix, "u")), x(1, "u", nil)}, false},
				{"of its child", []api.Node{at(0, nil), x(1, "u", nil), at(2, as(prefix, "u"))}, false},
				{"of its brother behind it", []api.Node{at(0, nil), x(1, "u", nil), at(1, as(prefix, "u"))}, false},
				{"of another prefix", []api.Node{at(0, as("q", "u")), x(1, "u", nil)}, false},
				{"nowhere", []api.Node{at(0, nil), x(1, "u", nil)}, false},
				{"not the first of two", []api.Node{at(0, append(as("q", "v"), as(prefix, "u")...)), x(1, "u", nil)}, true},
				{"the first of two", []api.Node{at(0, append(as(prefix, "u"), as("q", "v")...)), x(1, "u", nil)}, true},
				{"two that are taken back", []api.Node{at(0, append(as(prefix, "u"), as("q", "v")...)), at(1, append(as("q", "w"), as(prefix, "w")...)), x(1, "u", append(as("r", "v"), as("s", "v")...))}, true},
			} {
				l := append([]api.Node{root()}, c.l...)
				if c.ok {
					fine(t, prefix+" "+c.what, l)
				} else {
					refused(t, prefix+" "+c.what, l, api.ErrForm)
				}
			}
		}
	}
}

// TestNothingAgain has "" declared as "" again.
func TestNothingAgain(t *testing.T) {
	plain := func(parent int) api.Node { return simple(api.Element, parent) }
	u := api.Node{Kind: api.Element, Parent: 0, Local: "a", URI: "u", Decls: as("", "u")}
	empty := api.Node{Kind: api.Element, Parent: 1, Local: "a", Decls: as("", "")}
	fine(t, "nothing, as nothing again", []api.Node{root(), u, empty, plain(2), {Kind: api.Element, Parent: 1, Local: "a", URI: "u"}})
	refused(t, "what was, though it is nothing again", []api.Node{root(), u, empty, {Kind: api.Element, Parent: 2, Local: "a", URI: "u"}}, api.ErrForm)
	refused(t, "nothing, behind where it is", []api.Node{root(), u, empty, plain(1)}, api.ErrForm)
	fine(t, "nothing as nothing, from the beginning", []api.Node{root(), {Kind: api.Element, Local: "a", Decls: as("", "")}, plain(1)})
	v := api.Node{Kind: api.Element, Parent: 2, Local: "a", URI: "v", Decls: as("", "v")}
	fine(t, "something again", []api.Node{root(), u, empty, v, {Kind: api.Element, Parent: 3, Local: "a", URI: "v"}, plain(2)})
}

func TestTexts(t *testing.T) {
	for _, s := range append([]string{xmlSpace, xmlnsSpace, "--", "-", "?>", "a--b-", "<!--"}, goodTexts...) {
		fine(t, "Text "+s, below(api.Node{Kind: api.Text, Text: s}))
	}
	for _, s := range append([]string{""}, badTexts...) {
		refused(t, "Text "+s, below(api.Node{Kind: api.Text, Text: s}), api.ErrForm)
	}
	a, text := func(parent int) api.Node { return simple(api.Element, parent) }, func(parent int) api.Node { return simple(api.Text, parent) }
	comment, instruction := simple(api.Comment, 1), simple(api.Instruction, 1)
	for what, l := range map[string][]api.Node{
		"a Comment between":       {text(1), comment, text(1)},
		"an Instruction between":  {text(1), instruction, text(1)},
		"an element between":      {text(1), a(1), text(1)},
		"a Text above":            {text(1), a(1), text(3), text(1)},
		"a Text below":            {a(1), text(2), text(1)},
		"one of another brother":  {a(1), text(2), a(1), text(4)},
		"a Text above, far":       {a(1), a(2), text(3), text(2), text(1)},
		"a Comment, two Comments": {comment, comment, text(1), comment, comment, text(1)},
	} {
		fine(t, what, append([]api.Node{root(), a(0)}, l...))
	}
	other := text(1)
	other.Text = "other"
	for what, l := range map[string][]api.Node{
		"two":                 {text(1), text(1)},
		"two of other texts":  {text(1), other},
		"the last two":        {text(1), comment, text(1), other},
		"three":               {text(1), text(1), text(1)},
		"two below another":   {a(1), text(2), text(2)},
		"two behind another":  {a(1), text(1), text(1)},
		"two, a Text between": {text(1), a(1), text(3), text(1), text(1)},
	} {
		refused(t, "Texts side by side: "+what, append([]api.Node{root(), a(0)}, l...), api.ErrForm)
	}
}

func TestComments(t *testing.T) {
	check := func(s string, ok bool) {
		t.Helper()
		for _, l := range [][]api.Node{
			below(api.Node{Kind: api.Comment, Text: s}), append(rich(), api.Node{Kind: api.Comment, Text: s}), {root(), {Kind: api.Comment, Text: s}, simple(api.Element, 0)},
		} {
			if ok {
				fine(t, "a Comment "+s, l)
			} else {
				refused(t, "a Comment "+s, l, api.ErrForm)
			}
		}
	}
	for _, s := range append([]string{"", "-a", "a-b", "- -a", "->", ">", "- - ", "-\n", "?>", "\u2010\u2010", "a\u2010", "-\u00ad"}, goodTexts...) {
		check(s, true)
	}
	for _, s := range append([]string{"-", "--", "---", "a-", "a--", "--a", "a--b", "a---b", "-a-", " -", "a--b--c", "- -", "-->", "a-->", "\u6587-", strings.Repeat("a", 5000) + "-"}, badTexts...) {
		check(s, false)
	}
}

func TestInstructions(t *testing.T) {
	check := func(target, s string, ok bool) {
		t.Helper()
		x := api.Node{Kind: api.Instruction, Local: target, Text: s}
		for _, l := range [][]api.Node{below(x), append(rich(), x), {root(), x, simple(api.Element, 0)}} {
			if ok {
				fine(t, "an Instruction "+target+" "+s, l)
			} else {
				refused(t, "an Instruction "+target+" "+s, l, api.ErrForm)
			}
		}
	}
	for _, s := range goodNames {
		if s != "xml" && s != "XML" {
			check(s, "", true)
		}
	}
	// In letters that other rules take for the same, and with more or less than xml.
	for _, s := range []string{"xm", "ml", "xl", "xmll", "xxml", "xmlxml", "xml-", "xml.", "xml1", "XML-", "_xml", "xmI", "\u0445ml", "x\u043cl", "\uff58\uff4d\uff4c", "\uff38\uff2d\uff2c", "xm\u0142", "\u2179ml", "xml\u00b7", "xm\u2113", "x\u1e3fl", "xml\u0301"} {
		check(s, "a", true)
	}
	for _, s := range append([]string{"", "xml", "xmL", "xMl", "xML", "Xml", "XmL", "XMl", "XML"}, badNames...) {
		check(s, "", false)
		check(s, "a", false)
	}
	for _, s := range append([]string{"", "?", ">", "??", "a?", ">?", "? >", "?a>", "<?", "a ", "a \t\n\r", "?\u00a0>", "\u00a0a", "\u3000a", "\u0085a", "\ufeffa", "--", "a-", "-"}, goodTexts...) {
		check("a", s, s == "" || !strings.ContainsAny(s[:1], " \t\n\r"))
	}
	for _, s := range append([]string{"?>", "a?>", "?>a", "a?>b", "??>", "?>?>", " ", "\t", "\n", "\r", " a", "\ta", "\na", "\ra", "  a", " ?", strings.Repeat("a", 5000) + "?>"}, badTexts...) {
		check("a", s, false)
	}
}

// TestLongLists has lists far beyond the limits, of which it is to be told first whether they are formed.
func TestLongLists(t *testing.T) {
	const n = 200000
	deep := []api.Node{root(), {Kind: api.Element, Prefix: "p", Local: "a", URI: "u", Decls: []api.Decl{{Prefix: "p", URI: "u"}}}}
	wide := []api.Node{root(), simple(api.Element, 0)}
	stairs := []api.Node{root(), simple(api.Element, 0)}
	var decls []api.Decl
	var attrs []api.Attr
	for i := range n {
		deep = append(deep, api.Node{Kind: api.Element, Parent: i + 1, Prefix: "p", Local: "a", URI: "u"})
		wide = append(wide, simple(api.Comment, 1))
		// Down by two and up by one, again and again.
		up := 1
		if len(stairs) > 3 {
			up = len(stairs) - 1
			if i%3 == 0 {
				up = stairs[up].Parent
			}
		}
		stairs = append(stairs, simple(api.Element, up))
		id := "a" + strings.Repeat("b", i%7) + string(rune(0x4e00+i%20000)) + string(rune(0x4e00+i/20000))
		decls = append(decls, api.Decl{Prefix: id, URI: "u"})
		attrs = append(attrs, api.Attr{Local: id})
	}
	marks := []api.Node{root(), {Kind: api.Element, Local: "a", Decls: decls, Attrs: attrs}}
	for what, l := range map[string][]api.Node{"deep": deep, "wide": wide, "stairs": stairs, "marks": marks} {
		refused(t, what, l, api.ErrLimit)
		refused(t, what+", and not formed", append(l, simple(api.Element, 0)), api.ErrForm)
		refused(t, what+", and not formed", append([]api.Node{{}}, l[1:]...), api.ErrForm)
	}
	up := append(deep, api.Node{Kind: api.Element, Parent: 1, Prefix: "p", Local: "a", URI: "u"})
	refused(t, "up by many", up, api.ErrLimit)
	up[len(up)-1].URI = "v"
	refused(t, "up by many, and not formed", up, api.ErrForm)
	marks[1].Decls = append(decls, decls[n/2])
	refused(t, "marks, one twice", marks, api.ErrForm)
	marks[1].Decls, marks[1].Attrs = decls, append(attrs, attrs[n/2])
	refused(t, "marks, one twice", marks, api.ErrForm)
}

package doc

import (
	"strings"

	"apostille/api"
	"apostille/name"
	"apostille/utf"
)

// formed tells whether the list l is formed. That is asked ahead of the limits, so of lists of any
// length and depth: therefore each node takes, all in all, no longer than it is long.
func formed(l []api.Node) bool {
	if len(l) == 0 || !rootFormed(l[0]) || !placed(l) {
		return false
	}
	for _, x := range l[1:] {
		if !nodeFormed(x) {
			return false
		}
	}
	return namesMean(l)
}

func rootFormed(x api.Node) bool {
	return x.Kind == api.Root && x.Parent == -1 && x.Local == "" && x.Text == "" && bare(x)
}

// bare tells whether x has nothing that an element alone may have.
func bare(x api.Node) bool {
	return x.Prefix == "" && x.URI == "" && len(x.Decls) == 0 && len(x.Attrs) == 0
}

// placed tells whether all nodes behind the Root stand where they may.
func placed(l []api.Node) bool {
	tops := 0
	for i := 1; i < len(l); i++ {
		if !hangs(l, i) || besideText(l, i) {
			return false
		}
		if l[i].Parent != 0 {
			continue
		}
		switch l[i].Kind {
		case api.Element:
			tops++
		case api.Comment, api.Instruction:
		default:
			return false
		}
	}
	return tops == 1
}

// hangs tells whether the Parent of the node i is the node ahead of it, or one above that, and
// may have children. All nodes ahead of i hang so: their Parents are ahead of them.
func hangs(l []api.Node, i int) bool {
	parent := l[i].Parent
	if parent < 0 {
		return false
	}
	above := i - 1
	for above > parent {
		above = l[above].Parent
	}
	return above == parent && (l[parent].Kind == api.Root || l[parent].Kind == api.Element)
}

// besideText tells whether the node i and the one ahead of it are Texts side by side.
func besideText(l []api.Node, i int) bool {
	x, ahead := l[i], l[i-1]
	return x.Kind == api.Text && ahead.Kind == api.Text && x.Parent == ahead.Parent
}

// nodeFormed tells whether x, which isn't the first node, is formed by its Kind, but for what
// its prefixes mean.
func nodeFormed(x api.Node) bool {
	switch x.Kind {
	case api.Element:
		return elementFormed(x)
	case api.Text:
		return bare(x) && x.Local == "" && x.Text != "" && isText(x.Text)
	case api.Comment:
		return bare(x) && x.Local == "" && commentFormed(x.Text)
	case api.Instruction:
		return bare(x) && targetFormed(x.Local) && instructionFormed(x.Text)
	}
	return false
}

func isText(s string) bool { return utf.Text([]byte(s)) }

func commentFormed(s string) bool {
	return isText(s) && !strings.Contains(s, "--") && !strings.HasSuffix(s, "-")
}

func targetFormed(s string) bool { return name.Is(s) && !strings.EqualFold(s, xml) }

func instructionFormed(s string) bool {
	return isText(s) && !strings.Contains(s, "?>") && (s == "" || !name.Blank(s[0]))
}

func elementFormed(x api.Node) bool {
	if !name.Is(x.Local) || !prefixFormed(x.Prefix) || x.Text != "" {
		return false
	}
	for _, d := range x.Decls {
		if !declFormed(d) {
			return false
		}
	}
	for _, a := range x.Attrs {
		if !attrFormed(a) {
			return false
		}
	}
	return !declaredTwice(x.Decls) && !markedTwice(x.Attrs)
}

func prefixFormed(s string) bool { return s == "" || name.Is(s) }

func declFormed(d api.Decl) bool {
	if !prefixFormed(d.Prefix) || d.Prefix == xmlns || !isText(d.URI) || d.URI == xmlnsURI {
		return false
	}
	if d.URI == "" && d.Prefix != "" {
		return false
	}
	return (d.Prefix == xml) == (d.URI == xmlURI)
}

func attrFormed(a api.Attr) bool {
	if a.Prefix == "" && a.Local == xmlns {
		return false
	}
	return name.Is(a.Local) && prefixFormed(a.Prefix) && isText(a.Value)
}

// declaredTwice tells whether two of l have one Prefix.
func declaredTwice(l []api.Decl) bool {
	seen := map[string]int{}
	for i, d := range l {
		seen[d.Prefix] = i
	}
	return len(seen) < len(l)
}

// fullName is what no two attributes of an element have in common.
type fullName struct{ local, uri string }

// markedTwice tells whether two of l have the same Local and URI.
func markedTwice(l []api.Attr) bool {
	seen := map[fullName]int{}
	for i, a := range l {
		seen[fullName{local: a.Local, uri: a.URI}] = i
	}
	return len(seen) < len(l)
}

// within tells whether l, which is formed, is within the limits.
func within(l []api.Node) bool {
	if len(l) > api.MaxNodes {
		return false
	}
	depths := make([]int, len(l))
	for i, x := range l {
		if i > 0 {
			depths[i] = depths[x.Parent] + 1
		}
		if depths[i] > api.MaxDepth || len(x.Decls)+len(x.Attrs) > api.MaxMarks {
			return false
		}
	}
	return true
}

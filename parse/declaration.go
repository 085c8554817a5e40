package parse

import "strings"

// behindDeclaration answers what stands in s behind a declaration; all of s, if it begins with
// none. What then looks like one is an instruction, whose target may not be xml.
func behindDeclaration(s string) string {
	c := cursor{rest: s}
	if !c.skip("<?xml") || !c.says("version", isVersion) {
		return s
	}
	c.says("encoding", isEncoding)
	c.says("standalone", isStandalone)
	c.blanks()
	if !c.skip("?>") {
		return s
	}
	return c.rest
}

// says reads blanks, key, EQ and a value in quotes, which may is asked of; it tells whether they
// stood there, and reads nothing else.
func (c *cursor) says(key string, may func(value string) bool) bool {
	ahead := *c
	if !ahead.blanks() || !ahead.skip(key) || !ahead.equals() {
		return false
	}
	value, ok := ahead.quoted()
	if !ok || !may(value) {
		return false
	}
	*c = ahead
	return true
}

func isVersion(s string) bool { return s == "1.0" }

func isEncoding(s string) bool { return strings.EqualFold(s, "UTF-8") }

func isStandalone(s string) bool { return s == "yes" || s == "no" }

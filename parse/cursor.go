package parse

import (
	"strings"

	"apostille/name"
)

// blank has all blanks but D, of which a text with its lines ended has none.
const blank = "\x20\x09\x0A"

// cursor is what of a text isn't read yet.
type cursor struct{ rest string }

// skip reads s, and tells whether it stood there.
func (c *cursor) skip(s string) bool {
	rest, found := strings.CutPrefix(c.rest, s)
	c.rest = rest
	return found
}

// blanks reads all blanks that stand there, and tells whether there was one.
func (c *cursor) blanks() bool {
	n := 0
	for n < len(c.rest) && name.Blank(c.rest[n]) {
		n++
	}
	c.rest = c.rest[n:]
	return n > 0
}

// upTo reads and answers all up to the first of ends, or to the end.
func (c *cursor) upTo(ends string) string {
	n := strings.IndexAny(c.rest, ends)
	if n < 0 {
		n = len(c.rest)
	}
	ahead := c.rest[:n]
	c.rest = c.rest[n:]
	return ahead
}

// through reads all up to end, which it answers, and end; false, if there is no end.
func (c *cursor) through(end string) (string, bool) {
	ahead, rest, found := strings.Cut(c.rest, end)
	if !found {
		return "", false
	}
	c.rest = rest
	return ahead, true
}

// equals reads EQ, and tells whether it stood there.
func (c *cursor) equals() bool {
	c.blanks()
	found := c.skip("=")
	c.blanks()
	return found
}

// quoted reads quotes, and answers what stands in them; false, if there are none.
func (c *cursor) quoted() (string, bool) {
	switch {
	case c.skip("'"):
		return c.through("'")
	case c.skip(`"`):
		return c.through(`"`)
	}
	return "", false
}

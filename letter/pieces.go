package letter

import (
	"slices"
	"strings"
)

type kind int

const (
	nothing kind = iota // the text is over
	space
	quoted
	literal
	sign
	atom
)

const (
	spaces   = " \t\r\n"
	leftover = `)]\`
	signs    = "<>:;@,."
	// What an atom ends at.
	special = spaces + leftover + signs + `("[`
)

// piece is a piece of an address field; a space has no text.
type piece struct {
	kind kind
	text string
}

func (p piece) is(mark string) bool { return p.kind == sign && p.text == mark }

// cursor goes through a text's pieces.
type cursor struct {
	rest string
}

// next is the piece that the rest begins with.
func (c *cursor) next() piece {
	before := len(c.rest)
	for c.passSpace() {
	}
	switch {
	case len(c.rest) < before:
		return piece{kind: space}
	case c.rest == "":
		return piece{}
	case c.rest[0] == '"':
		return piece{quoted, c.quote()}
	case c.rest[0] == '[':
		return piece{literal, c.host()}
	case has(signs, c.rest[0]):
		return piece{sign, c.take(1)}
	}
	n := strings.IndexAny(c.rest, special)
	if n < 0 {
		n = len(c.rest)
	}
	return piece{atom, c.take(n)}
}

// take passes over the first n bytes, or as many as there are, and tells them.
func (c *cursor) take(n int) string {
	n = min(n, len(c.rest))
	taken := c.rest[:n]
	c.rest = c.rest[n:]
	return taken
}

// passSpace passes over one byte of space, or one comment, if such a one comes next.
func (c *cursor) passSpace() bool {
	switch {
	case c.rest == "":
		return false
	case has(spaces, c.rest[0]) || has(leftover, c.rest[0]):
		c.take(1)
		return true
	case c.rest[0] == '(':
		c.passComment()
		return true
	}
	return false
}

// passComment counts how deep it is, since comments may lie in one another deeper than calls should.
func (c *cursor) passComment() {
	for depth := 0; c.rest != ""; {
		switch c.take(1) {
		case `\`:
			c.take(1)
		case "(":
			depth++
		case ")":
			depth--
		}
		if depth == 0 {
			return
		}
	}
}

// quote passes over a quoted text and tells what it means.
func (c *cursor) quote() string {
	var out strings.Builder
	c.take(1)
	for c.rest != "" {
		b := c.take(1)
		if b == `"` {
			break
		}
		if b == `\` {
			b = c.take(1)
		}
		out.WriteString(b)
	}
	return out.String()
}

// host passes over a literal host and tells all its bytes.
func (c *cursor) host() string {
	from := c.rest
	for c.rest != "" {
		b := c.take(1)
		if b == "]" {
			break
		}
		if b == `\` {
			c.take(1)
		}
	}
	return from[:len(from)-len(c.rest)]
}

func has(bytes string, c byte) bool { return strings.IndexByte(bytes, c) >= 0 }

// textOf is the text of a row of pieces, with a gap where space stands between two.
func textOf(row []piece, gap string) string {
	var out strings.Builder
	begun, apart := false, false
	for _, p := range row {
		if p.kind == space {
			apart = begun
			continue
		}
		if apart {
			out.WriteString(gap)
		}
		out.WriteString(p.text)
		begun, apart = true, false
	}
	return out.String()
}

// isSpace tells whether no piece of a row is more than space.
func isSpace(row []piece) bool {
	return !slices.ContainsFunc(row, func(p piece) bool { return p.kind != space })
}

// cutAt cuts a row at the first sign of that text; without one all of it stands ahead.
func cutAt(row []piece, mark string) (ahead, behind []piece, is bool) {
	i := slices.IndexFunc(row, func(p piece) bool { return p.is(mark) })
	if i < 0 {
		return row, nil, false
	}
	return row[:i], row[i+1:], true
}

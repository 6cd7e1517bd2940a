package limb

import (
	"slices"
	"strings"

	"postbag/api"
	"postbag/octet"
)

// special is what no token has.
const special = `()<>@,;:\"/[]?=`

// cursor goes through a field's value.
type cursor struct {
	rest string
}

func isToken(c byte) bool { return '!' <= c && c <= '~' && strings.IndexByte(special, c) < 0 }

// take passes over the first n bytes, or as many as there are, and tells them.
func (c *cursor) take(n int) string {
	n = min(n, len(c.rest))
	taken := c.rest[:n]
	c.rest = c.rest[n:]
	return taken
}

func (c *cursor) passBlanks() {
	for {
		c.rest = strings.TrimLeft(c.rest, blanks)
		if !strings.HasPrefix(c.rest, "(") {
			return
		}
		c.passComment()
	}
}

// passComment counts how deep it is, since comments may lie in one another deeper than calls should.
func (c *cursor) passComment() {
	for depth := 0; c.rest != ""; {
		switch c.take(1) {
		case `\`:
			c.take(1)
		case "(":
			depth++
		case ")":
			depth--
		}
		if depth == 0 {
			return
		}
	}
}

// sign passes over blanks and one byte, if that is the one that is asked for.
func (c *cursor) sign(mark string) bool {
	c.passBlanks()
	rest, is := strings.CutPrefix(c.rest, mark)
	c.rest = rest
	return is
}

// token passes over blanks and a token, and tells it; empty: there is none.
func (c *cursor) token() string {
	c.passBlanks()
	n := 0
	for n < len(c.rest) && isToken(c.rest[n]) {
		n++
	}
	return c.take(n)
}

// small is a token in small letters.
func (c *cursor) small() string { return octet.Lower(c.token()) }

// word passes over blanks and a word, and tells it; false: there is none.
func (c *cursor) word() (string, bool) {
	if c.sign(`"`) {
		return c.quoted()
	}
	token := c.token()
	return token, token != ""
}

// quoted is the rest of a text in quotes; false: it does not end.
func (c *cursor) quoted() (string, bool) {
	var text strings.Builder
	for c.rest != "" {
		b := c.take(1)
		if b == `"` {
			return text.String(), true
		}
		if b == `\` {
			b = c.take(1)
		}
		text.WriteString(b)
	}
	return "", false
}

// media is a type and what stands below it; false: the value does not begin so.
func (c *cursor) media() (kind, sub string, is bool) {
	kind = c.small()
	if kind == "" || !c.sign("/") {
		return "", "", false
	}
	sub = c.small()
	return kind, sub, sub != ""
}

// param is one parameter, with the semicolon ahead of it.
func (c *cursor) param() (api.Param, bool) {
	if !c.sign(";") {
		return api.Param{}, false
	}
	name := c.small()
	if name == "" || !c.sign("=") {
		return api.Param{}, false
	}
	value, is := c.word()
	return api.Param{Name: name, Value: value}, is
}

// params is the parameters, of each name the first one.
func (c *cursor) params() []api.Param {
	var list []api.Param
	for len(list) < api.MaxParams {
		p, is := c.param()
		if !is {
			break
		}
		isSame := func(q api.Param) bool { return q.Name == p.Name }
		if !slices.ContainsFunc(list, isSame) {
			list = append(list, p)
		}
	}
	return list
}

// tokens is the tokens of a list with commas.
func (c *cursor) tokens() []string {
	var list []string
	for len(list) < api.MaxParams {
		token := c.small()
		if token == "" {
			break
		}
		list = append(list, token)
		if !c.sign(",") {
			break
		}
	}
	return list
}

package answer

import (
	"strings"

	"postbag/api"
	"postbag/lex"
	"postbag/span"
)

const digits = "0123456789"

// cursor goes through a line; where that can be no answer's it gives up by a panic, which read catches.
type cursor struct {
	rest string
}

func (c *cursor) answer() api.Answer {
	a := api.Answer{Kind: c.kind()}
	k := kinds()[a.Kind]
	if k.title != "" {
		a.Num = c.head(k)
	}
	k.read(c, &a)
	must(c.isOver())
	return a
}

// kind is the only one of which the line may be; nothing is passed as yet.
func (c *cursor) kind() int {
	if c.isAt(goingOn) {
		return api.AnswerContinue
	}
	rest, is := strings.CutPrefix(c.rest, untagged)
	title, _, _ := strings.Cut(strings.TrimLeft(rest, digits+" "), " ")
	for n, k := range kinds() {
		if is && title != "" && title == k.title {
			return n
		}
	}
	return api.AnswerState
}

func (c *cursor) head(k kind) int {
	num := 0
	c.pass(untagged + " ")
	if k.fields&ofNum != 0 {
		num = c.number()
		c.pass(" ")
	}
	c.pass(k.title)
	return num
}

func (c *cursor) isOver() bool { return c.rest == "" }

func (c *cursor) isAt(s string) bool { return strings.HasPrefix(c.rest, s) }

// passes goes on behind a text, if it stands there.
func (c *cursor) passes(s string) bool {
	is := c.isAt(s)
	if is {
		c.take(len(s))
	}
	return is
}

func (c *cursor) pass(s string) { must(c.passes(s)) }

func (c *cursor) take(n int) string {
	must(n <= len(c.rest))
	taken := c.rest[:n]
	c.rest = c.rest[n:]
	return taken
}

func (c *cursor) all() string { return c.take(len(c.rest)) }

// until takes all that stands ahead of the first of some bytes, or of the line's end.
func (c *cursor) until(stops string) string {
	n := strings.IndexAny(c.rest, stops)
	if n < 0 {
		return c.all()
	}
	return c.take(n)
}

// word takes what may be an atom, a sign, a number or a set.
func (c *cursor) word() string { return c.until(" )]") }

func (c *cursor) number() int {
	n, e := lex.Number(c.word(), api.MaxNumber)
	must(e == api.OK)
	return n
}

func (c *cursor) set() []api.Range {
	set, e := span.Parse(c.word())
	must(e == api.OK)
	return set
}

func (c *cursor) isAtText() bool { return c.isAt(`"`) || c.isAt("{") }

func (c *cursor) text() string {
	if c.passes(`"`) {
		return c.quoted()
	}
	return c.literal()
}

func (c *cursor) quoted() string {
	var out strings.Builder
	for {
		out.WriteString(c.until(`"\`))
		if c.passes(`"`) {
			return out.String()
		}
		c.pass(`\`)
		out.WriteString(c.take(1))
	}
}

func (c *cursor) literal() string {
	c.pass("{")
	n, e := lex.Number(c.until("}"), api.MaxOutput)
	must(e == api.OK)
	c.pass("}" + lineEnd)
	return c.take(n)
}

func (c *cursor) name() string {
	if c.isAtText() {
		return c.text()
	}
	return c.word()
}

// inBrackets takes a list with a blank between two.
func inBrackets[T any](c *cursor, read func() T) []T {
	c.pass("(")
	var list []T
	for !c.passes(")") {
		if len(list) > 0 {
			c.pass(" ")
		}
		list = append(list, read())
	}
	return list
}

package thread

import (
	"strconv"
	"strings"

	"postbag/api"
)

// Line writes threads, each message by its uid.
func Line(twigs []api.Twig) string {
	var out strings.Builder
	if !writeList(&out, twigs, 1) {
		return ""
	}
	return out.String()
}

// writeList writes the threads of twigs that lie so deep; it stops at the first one that may not be told, which it answers by false.
func writeList(out *strings.Builder, twigs []api.Twig, deep int) bool {
	for _, t := range twigs {
		out.WriteByte('(')
		if !writeThread(out, t, deep) {
			return false
		}
		out.WriteByte(')')
	}
	return true
}

func writeThread(out *strings.Builder, t api.Twig, deep int) bool {
	if deep > api.MaxMails || !mayBe(t) {
		return false
	}
	if t.Uid != 0 {
		out.WriteString(strconv.Itoa(t.Uid))
		if len(t.Kids) > 0 {
			out.WriteByte(' ')
		}
	}
	if len(t.Kids) == 1 {
		return writeThread(out, t.Kids[0], deep+1)
	}
	return writeList(out, t.Kids, deep+1)
}

// mayBe tells whether a twig may be told, but for what lies further below it.
func mayBe(t api.Twig) bool {
	if t.Uid == 0 {
		return len(t.Kids) > 1
	}
	isAlone := len(t.Kids) == 1 && t.Kids[0].Uid == 0
	return t.Uid > 0 && t.Uid <= api.MaxNumber && !isAlone
}

// cursor goes through a line; it gives up by a panic, which ReadLine catches.
type cursor struct {
	s  string
	at int
}

func (c *cursor) giveUp() { panic(api.ErrThread) }

func (c *cursor) is(b byte) bool { return c.at < len(c.s) && c.s[c.at] == b }

// passes goes on behind a byte, if it stands there.
func (c *cursor) passes(b byte) bool {
	is := c.is(b)
	if is {
		c.at++
	}
	return is
}

// list reads any number of threads in brackets.
func (c *cursor) list(deep int) []api.Twig {
	var twigs []api.Twig
	for c.passes('(') {
		twigs = append(twigs, c.thread(deep))
		if !c.passes(')') {
			c.giveUp()
		}
	}
	return twigs
}

func (c *cursor) thread(deep int) api.Twig {
	if deep > api.MaxMails {
		c.giveUp()
	}
	var t api.Twig
	if !c.is('(') {
		t.Uid = c.uid()
		if !c.passes(' ') {
			return t
		}
	}
	if !c.is('(') {
		t.Kids = []api.Twig{c.thread(deep + 1)}
		return t
	}
	t.Kids = c.list(deep + 1)
	if len(t.Kids) < 2 {
		c.giveUp()
	}
	return t
}

func (c *cursor) uid() int {
	from, uid := c.at, 0
	for c.at < len(c.s) && c.s[c.at] >= '0' && c.s[c.at] <= '9' {
		uid = 10*uid + int(c.s[c.at]-'0')
		if uid == 0 || uid > api.MaxNumber {
			c.giveUp()
		}
		c.at++
	}
	if c.at == from {
		c.giveUp()
	}
	return uid
}

// ReadLine reads it.
func ReadLine(s string) (twigs []api.Twig, e api.Errno) {
	if len(s) > api.MaxOutput {
		return nil, api.ErrLong
	}
	defer func() {
		if recover() != nil {
			twigs, e = nil, api.ErrThread
		}
	}()
	c := cursor{s: s}
	twigs = c.list(1)
	if c.at < len(s) {
		c.giveUp()
	}
	return twigs, api.OK
}

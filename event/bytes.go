package event

import "postbag/api"

const (
	bitsOfByte = 7
	mostOfByte = 1<<bitsOfByte - 1
	goesOn     = 1 << bitsOfByte // of each byte of a number but the last

	mostBits = 5 * bitsOfByte // of a number: MaxNumber takes five bytes
)

func appendNumber(out []byte, n int) []byte {
	for n > mostOfByte {
		out = append(out, byte(n&mostOfByte|goesOn))
		n >>= bitsOfByte
	}
	return append(out, byte(n))
}

func appendText(out []byte, s string) []byte {
	return append(appendNumber(out, len(s)), s...)
}

func appendFlags(out []byte, flags []string) []byte {
	system, keywords := parted(flags)
	out = appendNumber(out, system)
	out = appendNumber(out, len(keywords))
	for _, k := range keywords {
		out = appendText(out, k)
	}
	return out
}

// cursor goes through an event's bytes; it gives up by a panic, which Decode catches.
type cursor struct {
	rest string
}

// gaveUp is what a cursor panics with.
type gaveUp struct{}

func (c *cursor) giveUp() { panic(gaveUp{}) }

// take is the next bytes, so many.
func (c *cursor) take(n int) string {
	if n > len(c.rest) {
		c.giveUp()
	}
	s := c.rest[:n]
	c.rest = c.rest[n:]
	return s
}

func (c *cursor) event() api.Event {
	var e api.Event
	e.Kind = c.number()
	e.Number = c.number()
	kind, is := kindOf(e.Kind)
	if !is {
		c.giveUp()
	}
	kind.read(c, &e)
	return e
}

func (c *cursor) number() int {
	n := 0
	for shift := 0; shift < mostBits; shift += bitsOfByte {
		b := int(c.take(1)[0])
		n |= (b & mostOfByte) << shift
		if b < goesOn {
			return n
		}
	}
	c.giveUp()
	return 0
}

// count is how long a list says it is; no event has one above its limit, so none is begun.
func (c *cursor) count(most int) int {
	n := c.number()
	if n > most {
		c.giveUp()
	}
	return n
}

func (c *cursor) text() string { return c.take(c.number()) }

func (c *cursor) flags() []string {
	system := c.number()
	var keywords []string
	for range c.count(api.MaxKeywords) {
		keywords = append(keywords, c.text())
	}
	return joined(system, keywords)
}

package moment

import (
	"strconv"
	"strings"

	"postbag/api"
)

// What the piece at a cursor may be.
const (
	pieceEnd = iota // there is none any more
	pieceLetters
	pieceDigits
	pieceSigned
	pieceComma
	pieceColon
	pieceNone // bytes that begin no piece
)

// cursor goes through a header's date piece by piece; kind and piece are of the one that it stands at, which ends at the place at.
type cursor struct {
	text  string
	at    int
	kind  int
	piece string
}

// ReadHeader reads the date of a header.
func ReadHeader(s string) (api.Moment, api.Errno) {
	c := &cursor{text: s}
	c.step()
	var m api.Moment
	formed := c.weekday() && c.day(&m) && c.clock(&m) && c.zone(&m) && c.kind == pieceEnd
	return judge(m, formed)
}

// PrintHeader writes it.
func PrintHeader(m api.Moment) (string, api.Errno) {
	if e := printable(m); e != api.OK {
		return "", e
	}
	day := strconv.Itoa(m.Day) + " " + monthNames[m.Month-1] + " " + padded(m.Year, 4)
	return weekdayNames[Weekday(m)] + ", " + day + " " + clockText(m) + " " + zoneText(m.Zone), api.OK
}

// step goes to the next piece.
func (c *cursor) step() {
	c.skip()
	from := c.at
	c.kind = c.cut()
	c.piece = c.text[from:c.at]
}

// skip goes past blanks and comments.
func (c *cursor) skip() {
blanks:
	for c.at < len(c.text) {
		switch c.text[c.at] {
		case ' ', '\t', '\r', '\n':
			c.at++
		case '(':
			c.comment()
		default:
			break blanks
		}
	}
}

// comment goes past a comment and those within it. They are counted, not called for: a text may nest more of them than calls can be.
func (c *cursor) comment() {
	open := 0
comment:
	for c.at < len(c.text) {
		b := c.text[c.at]
		c.at++
		switch b {
		case '\\':
			if c.at < len(c.text) {
				c.at++
			}
		case '(':
			open++
		case ')':
			if open--; open == 0 {
				break comment
			}
		}
	}
}

// cut goes to the end of the piece that begins here, and tells its kind.
func (c *cursor) cut() int {
	if c.at == len(c.text) {
		return pieceEnd
	}
	b := c.text[c.at]
	switch {
	case isLetter(b):
		c.run(isLetter)
		return pieceLetters
	case isDigit(b):
		c.run(isDigit)
		return pieceDigits
	}
	c.at++
	switch b {
	case ',':
		return pieceComma
	case ':':
		return pieceColon
	case '+', '-':
		if c.run(isDigit) {
			return pieceSigned
		}
	}
	return pieceNone
}

// run goes past all bytes that are so, and tells whether there were any.
func (c *cursor) run(isSo func(byte) bool) bool {
	from := c.at
	for c.at < len(c.text) && isSo(c.text[c.at]) {
		c.at++
	}
	return c.at > from
}

func isLetter(b byte) bool { return within(int(small(b)), 'a', 'z') }

// take goes past a piece of that kind, if the cursor stands at one.
func (c *cursor) take(kind int) (string, bool) {
	if c.kind != kind {
		return "", false
	}
	piece := c.piece
	c.step()
	return piece, true
}

// short takes one or two digits, whose number is at most top.
func (c *cursor) short(top int) (int, bool) {
	piece, _ := c.take(pieceDigits)
	n, isNumber := number(piece, 1, 2)
	return n, isNumber && n <= top
}

// weekday takes a day of the week and its comma, if there is one; which day that is, is not held against the date.
func (c *cursor) weekday() bool {
	name, isThere := c.take(pieceLetters)
	if !isThere {
		return true
	}
	_, isComma := c.take(pieceComma)
	return isWeekday(name) && isComma
}

func (c *cursor) day(m *api.Moment) bool {
	var isNumber, isMonth, isYear bool
	m.Day, isNumber = c.short(99)
	name, _ := c.take(pieceLetters)
	m.Month, isMonth = monthOf(name)
	year, _ := c.take(pieceDigits)
	m.Year, isYear = fullYear(year)
	return isNumber && isMonth && isYear
}

// fullYear knows the years of two and three digits that old programs write.
func fullYear(s string) (int, bool) {
	n, ok := number(s, 2, 4)
	switch {
	case !ok || len(s) == 4:
		return n, ok
	case len(s) == 2 && n < 50:
		return 2000 + n, true
	}
	return 1900 + n, true
}

func (c *cursor) clock(m *api.Moment) bool {
	var isHour, isMinute bool
	m.Hour, isHour = c.short(23)
	_, isColon := c.take(pieceColon)
	m.Minute, isMinute = c.short(59)
	return isHour && isColon && isMinute && c.second(m)
}

func (c *cursor) second(m *api.Moment) bool {
	if _, isColon := c.take(pieceColon); !isColon {
		return true
	}
	second, ok := c.short(60)
	// A leap second has no stamp of its own.
	m.Second = min(second, 59)
	return ok
}

func (c *cursor) zone(m *api.Moment) bool {
	if name, isName := c.take(pieceLetters); isName {
		m.Zone = namedZone(name)
		return true
	}
	if signed, isSigned := c.take(pieceSigned); isSigned {
		return takeZone(m, signed)
	}
	return true
}

// namedZone is 0 for letters that name none.
func namedZone(name string) int {
	minutes := map[string]int{
		"EST": -300, "EDT": -240,
		"CST": -360, "CDT": -300,
		"MST": -420, "MDT": -360,
		"PST": -480, "PDT": -420,
	}
	// A piece of letters is ASCII alone, so no other case is turned.
	return minutes[strings.ToUpper(name)]
}

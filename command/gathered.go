package command

import (
	"postbag/api"
	"postbag/octet"
)

const (
	done = "DONE"

	mostKept = 2 * api.MaxLine // of a piece of line: one that comes to more is spoilt
)

// gathered is what has come of a command.
type gathered struct {
	line     []byte // the line so far, up to MaxLine bytes: of more than that only the tag is asked
	piece    []byte // the piece of line that comes, or a shorter one that announces the same
	literals []string
	literal  []byte
	left     int // bytes of the literal that have not come
	ofLines  int // bytes of all pieces of line
	size     int // with the literals, as they were announced
	isCr     bool
	isWrong  bool
	why      api.Errno // what spoilt it
}

func (g *gathered) isSpoilt() bool { return g.why != api.OK }

// spoil keeps what came first, and of the literals nothing more, since nobody will read them.
func (g *gathered) spoil(why api.Errno) {
	if !g.isSpoilt() {
		g.why = why
	}
	g.literals, g.literal = nil, nil
}

// addToLine is true, if the piece of line ends with this byte.
func (g *gathered) addToLine(c byte) bool {
	g.ofLines++
	g.size++
	if g.isCr && c == '\n' {
		g.endPiece()
		return true
	}
	if g.isCr {
		g.isWrong = true
		g.keep('\r')
	}
	g.isCr = c == '\r'
	if !g.isCr {
		g.isWrong = g.isWrong || c == 0 || c == '\n'
		g.keep(c)
	}
	return false
}

func (g *gathered) endPiece() {
	g.isCr = false
	if g.isWrong || g.ofLines > api.MaxLine || g.size > api.MaxCommand {
		g.spoil(api.ErrLine)
	}
}

func (g *gathered) keep(c byte) {
	if len(g.line) < api.MaxLine {
		g.line = append(g.line, c)
	}
	if len(g.piece) == mostKept {
		g.piece = shortened(string(g.piece))
	}
	g.piece = append(g.piece, c)
}

// announce begins a literal; the next piece of line begins outside of quotes, as this one ended.
func (g *gathered) announce(n int) {
	g.piece = nil
	g.left = n
	g.size += n
	switch {
	case n > api.MaxLiteral, g.size > api.MaxCommand:
		g.spoil(api.ErrLiteral)
	case n == 0:
		g.endLiteral()
	}
}

// addToLiteral is true, if the literal ends with this byte.
func (g *gathered) addToLiteral(c byte) bool {
	if c == 0 {
		g.spoil(api.ErrLiteral)
	}
	if !g.isSpoilt() {
		g.literal = append(g.literal, c)
	}
	g.left--
	if g.left > 0 {
		return false
	}
	g.endLiteral()
	return true
}

func (g *gathered) endLiteral() {
	if !g.isSpoilt() {
		g.literals = append(g.literals, string(g.literal))
		g.literal = nil
	}
}

func (g *gathered) whole() api.Input {
	if g.isSpoilt() {
		return g.bad(g.why)
	}
	c, e := Read(string(g.line), g.literals)
	switch e {
	case api.OK:
		return api.Input{Kind: api.InCommand, Command: c}
	case api.ErrTag:
		return g.bad(api.ErrTag)
	}
	return g.bad(api.ErrCommand)
}

func (g *gathered) bad(why api.Errno) api.Input {
	return api.Input{Kind: api.InBad, Tag: tagOf(string(g.line)), Why: why}
}

// idle is what a line is that comes while IDLE is to be ended.
func (g *gathered) idle() api.Input {
	switch {
	case octet.Same(string(g.line), done):
		return api.Input{Kind: api.InDone}
	case g.isSpoilt():
		return api.Input{Kind: api.InBad, Why: api.ErrLine}
	}
	return api.Input{Kind: api.InBad, Why: api.ErrCommand}
}

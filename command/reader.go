package command

import (
	"postbag/api"
	"postbag/lex"
)

// How far a reader is with the command that comes.
const (
	ahead  = iota // no piece of line of it has been passed
	within        // its first piece of line has been passed
	over          // nothing will ever come again
)

// Reader gathers bytes that come in pieces.
type Reader struct {
	fed     []byte // what no Next has looked at as yet
	pending int
	isIdle  bool
	state   int
	take    func(byte) *api.Input // what is done with the next byte; with it an input is told, or none
	got     gathered
}

// New is a reader that has heard nothing.
func New() *Reader { return &Reader{} }

// Feed takes the next piece.
func (r *Reader) Feed(piece string) {
	if r == nil || r.state == over {
		return
	}
	r.fed = append(r.fed, piece...)
	r.pending += len(piece)
}

// Next is the next thing that has come; false: there is none as yet.
func (r *Reader) Next() (api.Input, bool) {
	if r == nil {
		return api.Input{}, false
	}
	if r.take == nil {
		r.take = r.takeOfLine
	}
	for len(r.fed) > 0 {
		if in := r.take(r.pop()); in != nil {
			return *in, true
		}
	}
	return api.Input{}, false
}

func (r *Reader) pop() byte {
	c := r.fed[0]
	r.fed = r.fed[1:]
	if len(r.fed) == 0 {
		r.fed = nil // else the room of what was looked at would be kept
	}
	return c
}

// Idle says whether the next line is to end IDLE.
func (r *Reader) Idle(on bool) {
	if r != nil {
		r.isIdle = on
	}
}

// Pending is how many bytes were fed behind the end of the last input that was told, InContinue apart.
func (r *Reader) Pending() int {
	if r == nil {
		return 0
	}
	return r.pending
}

// takeOfLine sees what a line is at its CR LF alone: up to there it may be a command's as well as the end of IDLE.
func (r *Reader) takeOfLine(c byte) *api.Input {
	if !r.got.addToLine(c) {
		return nil
	}
	if r.state == ahead && r.isIdle {
		return r.end(r.got.idle())
	}
	n, isAtOnce, is := lex.Announced(string(r.got.piece))
	switch {
	case !is:
		return r.end(r.got.whole())
	case isAtOnce && n > api.MaxNumber:
		in := r.got.bad(api.ErrNumber)
		*r = Reader{state: over}
		return &in
	}
	return r.begin(n, isAtOnce)
}

// begin goes on with a literal.
func (r *Reader) begin(n int, isAtOnce bool) *api.Input {
	r.got.announce(n)
	if !isAtOnce && r.got.isSpoilt() {
		return r.end(r.got.bad(r.got.why))
	}
	r.state = within
	if n > 0 {
		r.take = r.takeOfLiteral
	}
	if isAtOnce {
		return nil
	}
	return &api.Input{Kind: api.InContinue}
}

func (r *Reader) takeOfLiteral(c byte) *api.Input {
	if r.got.addToLiteral(c) {
		r.take = r.takeOfLine
	}
	return nil
}

// end is what is told of a command, or of a line of IDLE, with its last byte; the next one begins behind it.
func (r *Reader) end(in api.Input) *api.Input {
	r.state, r.got, r.pending = ahead, gathered{}, len(r.fed)
	return &in
}

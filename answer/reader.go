package answer

import (
	"bytes"

	"postbag/api"
)

// Reader reads answers from bytes that come in pieces.
type Reader struct {
	fed  []byte // all from the beginning of the answer that comes
	from int    // behind its last literal, which may not have come whole
	seen int    // no end of a line begins ahead of this place and behind from
}

// New is a reader that has heard nothing.
func New() *Reader { return &Reader{} }

// Feed takes the next piece.
func (r *Reader) Feed(piece string) {
	if r != nil {
		r.fed = append(r.fed, piece...)
	}
}

// Next is the next answer that has come; false: there is none as yet.
func (r *Reader) Next() (api.Answer, bool) {
	if r == nil {
		return api.Answer{}, false
	}
	at, is := r.end()
	if !is {
		return api.Answer{}, false
	}
	line := string(r.fed[:at])
	rest := r.fed[at+len(lineEnd):]
	if len(rest) == 0 {
		rest = nil // else the room of what was told would be kept
	}
	*r = Reader{fed: rest}
	return answerOf(line), true
}

// end is where the CR LF of the answer that comes stands, if it has come.
func (r *Reader) end() (int, bool) {
	for r.seen < len(r.fed) {
		at := bytes.Index(r.fed[r.seen:], []byte(lineEnd))
		if at < 0 {
			r.seen = len(r.fed) - 1 // the last byte may be the CR of one
			break
		}
		at += r.seen
		n, is := announced(string(r.fed[r.from:at]))
		if !is || n > api.MaxOutput {
			return at, true
		}
		r.from = at + len(lineEnd) + n
		r.seen = r.from
	}
	return 0, false
}

// answerOf reads all that ends with a CR LF, which is left out here.
func answerOf(line string) api.Answer {
	a, is := read(line)
	if !is {
		return api.Answer{Kind: api.AnswerBad, Text: line}
	}
	return a
}

func read(line string) (a api.Answer, is bool) {
	defer func() {
		if recover() != nil {
			a, is = api.Answer{}, false
		}
	}()
	c := cursor{rest: line}
	a = c.answer()
	// The cursor takes more than Print writes; two answers never have one line, so writing it again finds what is too much.
	again, e := Print(a)
	must(e == api.OK && again == line+lineEnd)
	return a, true
}

package command_test

import (
	"strings"

	"postbag/api"
	"postbag/command"
	"postbag/lex"
)

// slowReader is a Reader of another make: it keeps all bytes of a command, and looks at them from the beginning at each Next.
type slowReader struct {
	bytes     string
	isIdle    bool
	isBegun   bool // the first piece of line was passed while Idle was off
	continues int  // InContinue of this command that were told
	isOver    bool
}

func (r *slowReader) Feed(piece string) {
	if !r.isOver {
		r.bytes += piece
	}
}

func (r *slowReader) Idle(on bool) { r.isIdle = on }

func (r *slowReader) Pending() int { return len(r.bytes) }

func (r *slowReader) tell(in api.Input, size int) (api.Input, bool) {
	*r = slowReader{bytes: r.bytes[size:], isIdle: r.isIdle}
	return in, true
}

func slowBad(line string, why api.Errno) api.Input {
	tag := strings.SplitN(line, " ", 2)[0]
	if !tagForm.MatchString(tag) {
		tag = ""
	}
	return api.Input{Kind: api.InBad, Tag: tag, Why: why}
}

func (r *slowReader) Next() (api.Input, bool) {
	var line string
	var literals []string
	at, ofLines, ofLiterals, continues := 0, 0, 0, 0
	why := api.OK
	spoil := func(is bool, by api.Errno) {
		if is && why == api.OK {
			why = by
		}
	}
	for {
		size := strings.Index(r.bytes[at:], crlf)
		if size < 0 {
			return api.Input{}, false
		}
		piece := r.bytes[at : at+size]
		isFirst := at == 0
		at += size + 2
		line += piece
		ofLines += size + 2
		spoil(strings.ContainsAny(piece, "\x00\r\n") || ofLines > api.MaxLine || ofLines+ofLiterals > api.MaxCommand, api.ErrLine)
		if isFirst && !r.isBegun && r.isIdle {
			return r.idle(piece, why, at)
		}
		r.isBegun = true
		n, isAtOnce, is := lex.Announced(line)
		if !is || piece == "" {
			return r.whole(line, literals, why, at)
		}
		if isAtOnce && n > api.MaxNumber {
			*r = slowReader{isOver: true}
			return slowBad(line, api.ErrNumber), true
		}
		ofLiterals += n
		spoil(n > api.MaxLiteral || ofLines+ofLiterals > api.MaxCommand, api.ErrLiteral)
		if !isAtOnce {
			if why != api.OK {
				return r.tell(slowBad(line, why), at)
			}
			continues++
			if continues > r.continues {
				r.continues = continues
				return api.Input{Kind: api.InContinue}, true
			}
		}
		if len(r.bytes)-at < n {
			return api.Input{}, false
		}
		literals = append(literals, r.bytes[at:at+n])
		spoil(strings.Contains(r.bytes[at:at+n], "\x00"), api.ErrLiteral)
		at += n
	}
}

func (r *slowReader) idle(piece string, why api.Errno, size int) (api.Input, bool) {
	switch {
	case strings.EqualFold(piece, "done") && len(piece) == 4:
		return r.tell(api.Input{Kind: api.InDone}, size)
	case why != api.OK:
		return r.tell(api.Input{Kind: api.InBad, Why: api.ErrLine}, size)
	}
	return r.tell(api.Input{Kind: api.InBad, Why: api.ErrCommand}, size)
}

func (r *slowReader) whole(line string, literals []string, why api.Errno, size int) (api.Input, bool) {
	if why != api.OK {
		return r.tell(slowBad(line, why), size)
	}
	c, e := command.Read(line, literals)
	switch e {
	case api.OK:
		return r.tell(api.Input{Kind: api.InCommand, Command: c}, size)
	case api.ErrTag:
		return r.tell(slowBad(line, api.ErrTag), size)
	}
	return r.tell(slowBad(line, api.ErrCommand), size)
}

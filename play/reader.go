package play

import (
	"strings"

	"postbag/api"
)

// reader goes through a script line by line, up to the first one that offends.
type reader struct {
	left string    // the lines that have not been read
	line int       // the number of the one that was read last
	code api.Errno // not OK: that one offends
}

func newReader(script string) *reader {
	if len(script) > api.MaxScript {
		return &reader{code: api.ErrLong}
	}
	return &reader{left: script}
}

// next reads on to the next line that has words; none, if there is no such line, or one offends.
func (r *reader) next() []word {
	for r.code == api.OK && r.left != "" {
		var line string
		line, r.left, _ = strings.Cut(r.left, "\n")
		r.line++
		words, is := cut(line)
		switch {
		case !is:
			r.code = api.ErrScript
		case len(words) > 0:
			return words
		}
	}
	return nil
}

// rules reads the first line that has words.
func (r *reader) rules() api.Rules {
	words := r.next()
	rules, is := rulesOf(words)
	switch {
	case r.code != api.OK:
	case len(words) == 0:
		r.line, r.code = 0, api.ErrScript
	case !is:
		r.code = api.ErrScript
	}
	return rules
}

// steps reads all further lines, and hands on the step of each.
func (r *reader) steps(take func(x api.Step)) {
	taken := 0
lines:
	for words := r.next(); len(words) > 0; words = r.next() {
		x, is := stepOf(words)
		switch {
		case !is:
			r.code = api.ErrScript
			break lines
		case taken == api.MaxSteps:
			r.code = api.ErrLong
			break lines
		}
		take(x)
		taken++
	}
}

package lex

import "postbag/api"

// scanner goes through a line from left to right.
type scanner struct {
	line     string
	at       int
	literals []string   // those that are left
	begun    int        // words so far
	open     []api.Word // the line as a whole, then the lists and brackets that have not ended
}

// Scan cuts a command's line into words; each announcement of a literal takes the next one.
func Scan(line string, literals []string) ([]api.Word, api.Errno) {
	if isLong(line, literals) {
		return nil, api.ErrLong
	}
	s := scanner{line: line, literals: literals, open: make([]api.Word, 1)}
	if e := s.scan(); e != api.OK {
		return nil, e
	}
	return s.open[0].Kids, api.OK
}

func isLong(line string, literals []string) bool {
	if len(line) > api.MaxLine || len(literals) > api.MaxWords {
		return true
	}
	for _, literal := range literals {
		if len(literal) > api.MaxLiteral {
			return true
		}
	}
	return false
}

func (s *scanner) scan() api.Errno {
	quoting := false
words:
	for s.at < len(s.line) {
		if e := s.fault(); e != api.OK {
			return e
		}
		switch c := s.line[s.at]; c {
		case ' ':
			s.at++
		case '(', '[':
			s.push(c)
		case ')', ']':
			s.pop()
		case '{':
			s.takeLiteral()
		case '"':
			word := s.begin(api.WordQuoted)
			var text []byte
			escaped := false
			for {
				s.at++
				if s.at == len(s.line) {
					quoting = true
					break words
				}
				c := s.line[s.at]
				switch {
				case !mayBeQuoted(c, escaped):
					return api.ErrQuote
				case c == '"' && !escaped:
					s.at++
					word.Text = string(text)
					s.add(word)
					continue words
				case c == '\\' && !escaped:
					escaped = true
				default:
					escaped = false
					text = append(text, c)
				}
			}
		default:
			s.takeAtom()
		}
	}
	return s.endFault(quoting)
}

// fault is what is wrong first at a byte outside of words.
func (s *scanner) fault() api.Errno {
	c := s.line[s.at]
	begins := s.beginsWord()
	switch {
	case begins && s.begun == api.MaxWords:
		return api.ErrWords
	case isOpener(c) && len(s.open) > api.MaxNest, isCloser(c) && s.top().Kind != kindOf(c):
		return api.ErrNest
	case c == '{' && begins && !s.fitsLiteral():
		return api.ErrCount
	case begins, isCloser(c), c == ' ' && s.mayPause():
		return api.OK
	}
	return api.ErrLex
}

// endFault is what is wrong first at the line's end, and behind it.
func (s *scanner) endFault(quoting bool) api.Errno {
	switch {
	case len(s.open) > 1:
		return api.ErrNest
	case quoting:
		return api.ErrQuote
	case s.isBehindBlank():
		return api.ErrLex
	case len(s.literals) > 0:
		return api.ErrCount
	}
	return api.OK
}

func (s *scanner) beginsWord() bool {
	c := s.line[s.at]
	if c == '{' {
		_, _, size := readAnnouncement(s.line[s.at:])
		return size > 0
	}
	return c == '"' || isOpener(c) || bitsOf(c)&wordByte != 0
}

func (s *scanner) fitsLiteral() bool {
	n, _, _ := readAnnouncement(s.line[s.at:])
	return len(s.literals) > 0 && len(s.literals[0]) == n
}

func (s *scanner) mayPause() bool {
	last := s.at+1 == len(s.line) // what is wrong with that is told at the line's end
	return s.isBehindWord() && (last || !isCloser(s.line[s.at+1]))
}

func (s *scanner) isBehindWord() bool { return len(s.top().Kids) > 0 && !s.isBehindBlank() }

func (s *scanner) isBehindBlank() bool { return s.at > 0 && s.line[s.at-1] == ' ' }

func (s *scanner) top() *api.Word { return &s.open[len(s.open)-1] }

func (s *scanner) begin(kind int) api.Word {
	s.begun++
	return api.Word{Kind: kind, Glued: s.isBehindWord()}
}

func (s *scanner) add(word api.Word) {
	top := s.top()
	top.Kids = append(top.Kids, word)
}

func (s *scanner) push(opener byte) {
	s.open = append(s.open, s.begin(kindOf(opener)))
	s.at++
}

func (s *scanner) pop() {
	word := *s.top()
	s.open = s.open[:len(s.open)-1]
	s.add(word)
	s.at++
}

func (s *scanner) takeLiteral() {
	word := s.begin(api.WordLiteral)
	word.Text = s.literals[0]
	s.literals = s.literals[1:]
	_, _, size := readAnnouncement(s.line[s.at:])
	s.at += size
	s.add(word)
}

func (s *scanner) takeAtom() {
	word := s.begin(api.WordAtom)
	from := s.at
	for s.at < len(s.line) && bitsOf(s.line[s.at])&wordByte != 0 {
		s.at++
	}
	word.Text = s.line[from:s.at]
	s.add(word)
}

func mayBeQuoted(c byte, escaped bool) bool {
	return bitsOf(c)&quotedByte != 0 && (!escaped || needsBackslash(c))
}

func isOpener(c byte) bool { return c == '(' || c == '[' }

func isCloser(c byte) bool { return c == ')' || c == ']' }

// kindOf tells what a byte opens or closes.
func kindOf(c byte) int {
	if c == '(' || c == ')' {
		return api.WordList
	}
	return api.WordBracket
}

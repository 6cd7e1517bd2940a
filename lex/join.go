package lex

import (
	"slices"

	"postbag/api"
)

// joiner is a line and its literals as far as they are written.
type joiner struct {
	line     []byte
	literals []string
	words    int
}

// Join writes words: the line, and its literals.
func Join(words []api.Word) (string, []string, api.Errno) {
	if len(words) > api.MaxWords {
		return "", nil, api.ErrLong
	}
	var j joiner
	j.write(words)
	line := string(j.line)
	// Words have one line only, so reading it again finds every fault that the writer passes over.
	again, e := Scan(line, j.literals)
	if e != api.OK || !slices.EqualFunc(again, words, isSame) {
		return "", nil, api.ErrArg
	}
	return line, j.literals, api.OK
}

func isSame(a, b api.Word) bool {
	return a.Kind == b.Kind && a.Text == b.Text && a.Glued == b.Glued && slices.EqualFunc(a.Kids, b.Kids, isSame)
}

// write stops where there is too much, since words may lie in themselves without an end; what it has then is no line of theirs.
func (j *joiner) write(words []api.Word) {
	for i, word := range words {
		j.words++
		if j.words > api.MaxWords || len(word.Text) > api.MaxLiteral {
			return
		}
		if i > 0 && !word.Glued {
			j.line = append(j.line, ' ')
		}
		j.writeWord(word)
	}
}

func (j *joiner) writeWord(word api.Word) {
	switch word.Kind {
	case api.WordAtom:
		j.line = append(j.line, word.Text...)
	case api.WordQuoted:
		j.line = appendQuoted(j.line, word.Text)
	case api.WordLiteral:
		j.line = append(j.line, announce(word.Text)...)
		j.literals = append(j.literals, word.Text)
	case api.WordList:
		j.writeNest('(', word.Kids, ')')
	case api.WordBracket:
		j.writeNest('[', word.Kids, ']')
	}
}

func (j *joiner) writeNest(opener byte, kids []api.Word, closer byte) {
	j.line = append(j.line, opener)
	j.write(kids)
	j.line = append(j.line, closer)
}

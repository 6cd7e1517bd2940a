package lex

import (
	"strings"

	"postbag/api"
)

// Announced tells whether a line ends in the announcement of a literal: how many bytes, and whether they come at once.
func Announced(line string) (int, bool, bool) {
	from := strings.LastIndexByte(line, '{')
	if from < 0 || endsInQuotes(line[:from]) {
		return 0, false, false
	}
	n, plus, size := readAnnouncement(line[from:])
	if size != len(line)-from {
		return 0, false, false
	}
	return n, plus, true
}

func endsInQuotes(s string) bool {
	in := false
	for i := 0; i < len(s); i++ {
		switch {
		case s[i] == '"':
			in = !in
		case s[i] == '\\' && in:
			i++
		}
	}
	return in
}

// readAnnouncement reads one at the beginning of a text that begins with a brace: its number, whether it has a plus, and its size; without one the size is 0.
func readAnnouncement(s string) (n int, plus bool, size int) {
	at := 1
	for at < len(s) && isDigit(s[at]) {
		n = min(n*10+int(s[at]-'0'), api.MaxNumber+1)
		at++
	}
	digits := at - 1
	rest, plus := strings.CutPrefix(s[at:], "+")
	if digits == 0 || !strings.HasPrefix(rest, "}") {
		return 0, false, 0
	}
	return n, plus, len(s) - len(rest) + 1
}

package play

import (
	"slices"
	"strconv"
	"strings"

	"postbag/api"
)

const (
	blanks  = " \t\r"
	letters = "abcdefghijklmnopqrstuvwxyz"
	digits  = "0123456789abcdef"
)

// What a word may be.
const (
	isName = iota
	isNumber
	isQuoted
)

// word is a word of a line.
type word struct {
	kind int
	text string // of a name; of a quoted word, what it stands for
	num  int    // of a number
}

func name(text string) word { return word{kind: isName, text: text} }

func number(n int) word { return word{kind: isNumber, num: n} }

func quoted(text string) word { return word{kind: isQuoted, text: text} }

// cut cuts a line into its words; false: it offends.
func cut(line string) ([]word, bool) {
	var words []word
	mayBegin := true // a word, or a comment: at the line's begin, and behind a blank
line:
	for line != "" {
		size := 1
		switch c := line[0]; {
		case strings.IndexByte(blanks, c) >= 0:
			mayBegin = true
		case !mayBegin:
			break line
		case c == '#':
			size = len(line)
		default:
			w, n := wordAt(line)
			if n == 0 {
				break line
			}
			words = append(words, w)
			size, mayBegin = n, false
		}
		line = line[size:]
	}
	if line != "" { // it was left where it offends
		return nil, false
	}
	return words, true
}

// wordAt reads the word that begins a line, and tells how many bytes of the line it takes; 0: none begins there.
func wordAt(line string) (word, int) {
	if line[0] == '"' {
		return quotedAt(line)
	}
	bare := line
	if end := strings.IndexAny(line, blanks); end >= 0 {
		bare = line[:end]
	}
	n, err := strconv.Atoi(bare)
	switch {
	case strings.Trim(bare, letters) == "":
		return name(bare), len(bare)
	case err == nil && strconv.Itoa(n) == bare && isWithin(n):
		return number(n), len(bare)
	}
	return word{}, 0
}

func isWithin(n int) bool { return -api.MaxNumber <= n && n <= api.MaxNumber }

func areNumbers(words []word) bool {
	return !slices.ContainsFunc(words, func(w word) bool { return !isWithin(w.num) })
}

func quotedAt(line string) (word, int) {
	var text []byte
	for at := 1; at < len(line); {
		if line[at] == '"' {
			return quoted(string(text)), at + 1
		}
		b, n := pieceAt(line[at:])
		if n == 0 {
			break
		}
		text = append(text, b)
		at += n
	}
	return word{}, 0
}

// pieceAt reads a piece of a quoted word: the byte that it stands for, and how many it has; 0: it is none.
func pieceAt(line string) (byte, int) {
	c := line[0]
	switch {
	case c < 32, c == 127:
		return 0, 0
	case c != '\\':
		return c, 1
	case len(line) == 1:
		return 0, 0
	}
	switch c := line[1]; c {
	case '"', '\\':
		return c, 2
	case 'r':
		return '\r', 2
	case 'n':
		return '\n', 2
	case 'x':
		return hexAt(line)
	}
	return 0, 0
}

func hexAt(line string) (byte, int) {
	if len(line) < 4 {
		return 0, 0
	}
	b, err := strconv.ParseUint(line[2:4], 16, 8)
	if err != nil {
		return 0, 0
	}
	return byte(b), 4
}

// leastSize is a number of bytes below which words cannot be written.
func leastSize(words []word) int {
	size := 0
	for _, w := range words {
		size += len(w.text)
	}
	return size
}

// write writes words as a line has them, without the line's end.
func write(words ...word) string {
	var out []string
	for _, w := range words {
		out = append(out, w.write())
	}
	return strings.Join(out, " ")
}

func (w word) write() string {
	switch w.kind {
	case isNumber:
		return strconv.Itoa(w.num)
	case isQuoted:
		return quote(w.text)
	}
	return w.text
}

func quote(text string) string {
	out := []byte{'"'}
	for i := range len(text) {
		switch c := text[i]; {
		case c == '"', c == '\\':
			out = append(out, '\\', c)
		case c == '\r':
			out = append(out, `\r`...)
		case c == '\n':
			out = append(out, `\n`...)
		case c < 32, c >= 127:
			out = append(out, '\\', 'x', digits[c>>4], digits[c&15])
		default:
			out = append(out, c)
		}
	}
	return string(append(out, '"'))
}

package letter

import (
	"strings"

	"postbag/octet"
)

// encoded is an encoded word: its parts as they stand.
type encoded struct {
	charset, coding, text string
}

// Words undoes encoded words.
func Words(value string) string {
	var out strings.Builder
	for rest := value; rest != ""; {
		word, behind, is := cutEncoded(rest)
		if is {
			out.WriteString(word.meaning())
			rest = pastGap(behind)
			continue
		}
		n := upToEncoded(rest)
		out.WriteString(rest[:n])
		rest = rest[n:]
	}
	return out.String()
}

// pastGap leaves out the blanks at a text's beginning, if an encoded word stands behind them.
func pastGap(text string) string {
	behind := strings.TrimLeft(text, blanks)
	if _, _, is := cutEncoded(behind); is {
		return behind
	}
	return text
}

// upToEncoded is how far it is to the next place, behind the first byte, where an encoded word may begin.
func upToEncoded(text string) int {
	if n := strings.Index(text[1:], "=?"); n >= 0 {
		return 1 + n
	}
	return len(text)
}

// cutEncoded cuts an encoded word off a text's beginning.
func cutEncoded(text string) (encoded, string, bool) {
	var word encoded
	rest, is := strings.CutPrefix(text, "=?")
	if !is {
		return encoded{}, text, false
	}
	// A part that is missing is empty, and the rest with it, so that the end is missing then.
	word.charset, rest, _ = strings.Cut(rest, "?")
	word.coding, rest, _ = strings.Cut(rest, "?")
	word.text, rest, _ = strings.Cut(rest, "?")
	rest, is = strings.CutPrefix(rest, "=")
	if !is || !word.isKnown() {
		return encoded{}, text, false
	}
	return word, rest, true
}

// isKnown tells whether a word's parts are such as can be read.
func (w encoded) isKnown() bool {
	for i := range len(w.text) {
		if !isVisible(w.text[i]) {
			return false
		}
	}
	charset := w.isLatin() || octet.Same(w.charset, "us-ascii") || octet.Same(w.charset, "utf-8")
	return charset && (w.isBase64() || octet.Same(w.coding, "Q"))
}

func (w encoded) isLatin() bool { return octet.Same(w.charset, "iso-8859-1") }

func (w encoded) isBase64() bool { return octet.Same(w.coding, "B") }

// meaning is the bytes that a word stands for.
func (w encoded) meaning() string {
	bytes := ""
	if w.isBase64() {
		bytes = octet.Loose64(w.text)
	} else {
		bytes = fromQ(w.text)
	}
	if w.isLatin() {
		return fromLatin(bytes)
	}
	return bytes
}

// fromQ reads the coding Q, which octet's quoted-printable is not: a _ is a blank here, and an = at the end stays.
func fromQ(text string) string {
	var out strings.Builder
	for i := 0; i < len(text); i++ {
		c := text[i]
		if c == '_' {
			c = ' '
		} else if high, low := digit(text, i+1), digit(text, i+2); c == '=' && high >= 0 && low >= 0 {
			c = byte(high<<4 | low)
			i += 2
		}
		out.WriteByte(c)
	}
	return out.String()
}

// digit is what the digit at a place is worth; below 0: there is none.
func digit(text string, at int) int {
	if at >= len(text) {
		return -1
	}
	switch c := text[at]; {
	case '0' <= c && c <= '9':
		return int(c - '0')
	case 'A' <= c && c <= 'F':
		return int(c-'A') + 10
	case 'a' <= c && c <= 'f':
		return int(c-'a') + 10
	}
	return -1
}

// fromLatin takes each byte for the character with its number, which is what ISO 8859-1 is.
func fromLatin(bytes string) string {
	var out strings.Builder
	for i := range len(bytes) {
		out.WriteRune(rune(bytes[i]))
	}
	return out.String()
}

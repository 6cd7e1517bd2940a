package command

import (
	"strings"

	"postbag/lex"
)

// A number of so many digits, without a 0 ahead, is above MaxNumber, whatever digits follow.
const tooManyDigits = 11

// shortened is a row of bytes that stands for another one: if anything follows, just the same is announced at its end. So a line without an end fills no room.
func shortened(piece string) []byte {
	switch {
	case isOutside(piece):
		return []byte(unfinished(piece))
	case isOutside(piece + `"`):
		return []byte(`"`)
	}
	return []byte(`"\`)
}

// isOutside tells whether a row of bytes ends outside of quotes.
func isOutside(s string) bool {
	_, _, is := lex.Announced(s + "{0}")
	return is
}

// unfinished is the beginning of an announcement with which a row of bytes ends, or empty; of its digits there are as many as tell its number.
func unfinished(s string) string {
	from := strings.LastIndexByte(s, '{')
	digits, isAtOnce := strings.CutSuffix(s[from+1:], "+")
	if from < 0 || strings.Trim(digits, "0123456789") != "" {
		return ""
	}
	if digits != "" {
		number := strings.TrimLeft(digits, "0")
		digits = "0" + number[:min(len(number), tooManyDigits)]
	}
	if isAtOnce {
		digits += "+"
	}
	return "{" + digits
}

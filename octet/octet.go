// Package octet: base64, quoted-printable, names on the wire, ASCII case: see DOC.md, chapter 1.
package octet

import (
	"iter"
	"strings"
)

const lineEnd = "\r\n"

// Lower makes large letters small.
func Lower(s string) string {
	b := []byte(s)
	for i, c := range b {
		b[i] = small(c)
	}
	return string(b)
}

// Same tells whether two texts are the same in any case.
func Same(a, b string) bool {
	if len(a) != len(b) {
		return false
	}
	for i := range len(a) {
		if small(a[i]) != small(b[i]) {
			return false
		}
	}
	return true
}

func small(c byte) byte {
	if 'A' <= c && c <= 'Z' {
		return c + ('a' - 'A')
	}
	return c
}

// Lines goes through the lines of a text, without their ends, as far as it is asked.
func Lines(s string) iter.Seq[string] {
	return func(yield func(string) bool) {
		// Each walk has a rest of its own, so walks can stand one inside another.
		for rest := s; rest != ""; {
			line, behind, _ := strings.Cut(rest, lineEnd)
			if !yield(line) {
				return
			}
			rest = behind
		}
	}
}

// Whole tells whether each CR has its LF and each LF its CR.
func Whole(s string) bool {
	for i := range len(s) {
		if s[i] == '\r' && !endsLine(s, i) {
			return false
		}
		if s[i] == '\n' && (i == 0 || s[i-1] != '\r') {
			return false
		}
	}
	return true
}

func endsLine(s string, at int) bool { return strings.HasPrefix(s[at:], lineEnd) }

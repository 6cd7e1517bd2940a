package lex

import (
	"strconv"

	"postbag/api"
)

const lineEnd = "\r\n"

// String writes a text as a quoted string, or as a literal where it must.
func String(s string) string {
	if isAll(quotedByte, s) {
		return string(appendQuoted(nil, s))
	}
	return announce(s) + lineEnd + s
}

// Put writes a text as an atom where it may, else as String does.
func Put(s string) string {
	if Is(Astring, s) {
		return s
	}
	return String(s)
}

// Nstring is String, or NIL.
func Nstring(t api.Text) string {
	if !t.Is {
		return missing
	}
	return String(t.S)
}

func appendQuoted(out []byte, s string) []byte {
	out = append(out, '"')
	for i := range len(s) {
		if needsBackslash(s[i]) {
			out = append(out, '\\')
		}
		out = append(out, s[i])
	}
	return append(out, '"')
}

func needsBackslash(c byte) bool { return c == '"' || c == '\\' }

func announce(literal string) string { return "{" + strconv.Itoa(len(literal)) + "}" }

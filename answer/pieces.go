package answer

import (
	"strings"

	"postbag/api"
	"postbag/lex"
)

func isNumber(s string) bool {
	_, e := lex.Number(s, api.MaxNumber)
	return e == api.OK
}

// isAtom tells whether a text can stand as an atom where numbers and NIL can stand, too: an Astring is not NIL.
func isAtom(s string) bool { return lex.Is(lex.Astring, s) && !isNumber(s) }

func isSign(s string) bool {
	return s == `\*` || lex.Is(lex.Atom, strings.TrimPrefix(s, `\`))
}

func isHuman(s string) bool {
	if s == "" || s[0] == ' ' || s[0] == '[' {
		return false
	}
	for i := range len(s) {
		if s[i] < ' ' || s[i] > '~' {
			return false
		}
	}
	_, is := announced(s)
	return !is
}

// announced reads the announcement of a literal at a text's end; a number above MaxOutput is told as the one behind that.
func announced(s string) (int, bool) {
	s, isClosed := strings.CutSuffix(s, "}")
	from := strings.LastIndexByte(s, '{')
	number := s[from+1:]
	if !isClosed || from < 0 || number == "" {
		return 0, false
	}
	n := 0
	for i := range len(number) {
		if number[i] < '0' || number[i] > '9' {
			return 0, false
		}
		n = min(10*n+int(number[i]-'0'), api.MaxOutput+1)
	}
	return n, true
}

// isDatumName tells whether a datum may be named so: UID, BODY[1.MIME], BODY[HEADER.FIELDS (TO CC)]<0>.
func isDatumName(s string) bool {
	name, rest, hasSection := strings.Cut(s, "[")
	inner, place, isClosed := strings.Cut(rest, "]")
	return isAtom(name) && (!hasSection || isClosed && isInner(inner) && isPlace(place))
}

// isInner tells whether a text may stand in the brackets of a datum's name.
func isInner(s string) bool {
	section, rest, hasFields := strings.Cut(s, " ")
	if hasFields {
		return lex.Is(lex.Atom, section) && isFields(rest)
	}
	return s == "" || lex.Is(lex.Atom, s)
}

func isFields(s string) bool {
	s, isOpened := strings.CutPrefix(s, "(")
	s, isClosed := strings.CutSuffix(s, ")")
	for name := range strings.SplitSeq(s, " ") {
		if !lex.Is(lex.Atom, name) {
			return false
		}
	}
	return isOpened && isClosed
}

// isPlace tells whether a text may stand behind the brackets.
func isPlace(s string) bool {
	number, isOpened := strings.CutPrefix(s, "<")
	number, isClosed := strings.CutSuffix(number, ">")
	return s == "" || isOpened && isClosed && isNumber(number)
}

package lex_test

import (
	"math/rand/v2"
	"strconv"
	"strings"
	"testing"

	"postbag/api"
	"postbag/lex"
)

func wantString(s string) string {
	if !isMadeOf("a"+s, func(c byte) bool { return c < 128 && strings.IndexByte("\x00\r\n", c) < 0 }) {
		return "{" + strconv.Itoa(len(s)) + "}\r\n" + s
	}
	return `"` + strings.NewReplacer(`\`, `\\`, `"`, `\"`).Replace(s) + `"`
}

// lookAtStrings holds the three writers against others, and what they write against what is read of it: P3.6, P3.8.
func lookAtStrings(t *testing.T, s string) {
	t.Helper()
	want, wantPut := wantString(s), wantString(s)
	if wantIs(lex.Astring, s) {
		wantPut = s
	}
	if got := lex.String(s); got != want {
		t.Errorf("String(%.60q): %.60q, not %.60q", s, got, want)
	}
	if got := lex.Put(s); got != wantPut {
		t.Errorf("Put(%.60q): %.60q, not %.60q", s, got, wantPut)
	}
	if got := lex.Nstring(api.Text{Is: true, S: s}); got != want {
		t.Errorf("Nstring(%.60q): %.60q, not %.60q", s, got, want)
	}
	if got := lex.Nstring(api.Text{S: s}); got != "NIL" {
		t.Errorf("Nstring of no text, and %.60q: %.60q", s, got)
	}
	if len(s) <= 2000 {
		lookAtOneWord(t, s, lex.String(s), false)
		lookAtOneWord(t, s, lex.Put(s), true)
	}
}

// lookAtOneWord reads what was written of a text: one word, and no line's end but a literal's.
func lookAtOneWord(t *testing.T, text, written string, atomMayBe bool) {
	t.Helper()
	line, rest, isLiteral := strings.Cut(written, "\r\n")
	var literals []string
	if isLiteral {
		literals = []string{rest}
		if n, plus, is := lex.Announced(line); n != len(rest) || plus || !is {
			t.Errorf("%.60q: no announcement of %d bytes: %d, %v, %v", written, len(rest), n, plus, is)
		}
	}
	l, e := lex.Scan(line, literals)
	if e != api.OK || len(l) != 1 || l[0].Text != text || len(l[0].Kids) > 0 || l[0].Glued {
		t.Errorf("%.60q is read as %.60s, %d", written, shown(l), e)
		return
	}
	if kind := l[0].Kind; isLiteral != (kind == api.WordLiteral) || kind == api.WordAtom && !atomMayBe {
		t.Errorf("%.60q is a word of kind %d", written, kind)
	}
}

// P3.6
func TestStrings(t *testing.T) {
	for s, want := range map[string][2]string{
		"":             {`""`, `""`},
		"INBOX":        {`"INBOX"`, "INBOX"},
		"a b":          {`"a b"`, `"a b"`},
		`a"b`:          {`"a\"b"`, `"a\"b"`},
		`\Seen`:        {`"\\Seen"`, `"\\Seen"`},
		`"\`:           {`"\"\\"`, `"\"\\"`},
		"nil":          {`"nil"`, `"nil"`},
		"Nil":          {`"Nil"`, `"Nil"`},
		"NIL":          {`"NIL"`, `"NIL"`},
		"nill":         {`"nill"`, "nill"},
		"a*":           {`"a*"`, `"a*"`},
		"{3}":          {`"{3}"`, `"{3}"`},
		"(":            {`"("`, `"("`},
		"\x01\x7f":     {"\"\x01\x7f\"", "\"\x01\x7f\""},
		"\x00":         {"{1}\r\n\x00", "{1}\r\n\x00"},
		"a\r\n":        {"{3}\r\na\r\n", "{3}\r\na\r\n"},
		"\r":           {"{1}\r\n\r", "{1}\r\n\r"},
		"\n":           {"{1}\r\n\n", "{1}\r\n\n"},
		"\xe9":         {"{1}\r\n\xe9", "{1}\r\n\xe9"},
		"é":            {"{2}\r\né", "{2}\r\né"},
		`é"\`:          {"{4}\r\né\"\\", "{4}\r\né\"\\"},
		"a\r\n{3}\r\n": {"{8}\r\na\r\n{3}\r\n", "{8}\r\na\r\n{3}\r\n"},
	} {
		if got := [2]string{lex.String(s), lex.Put(s)}; got != want {
			t.Errorf("%q: %q, not %q", s, got, want)
		}
		lookAtStrings(t, s)
	}
}

// P3.6, P3.8
func TestStringsOfEachByte(t *testing.T) {
	for c := range 256 {
		b := string([]byte{byte(c)})
		for _, s := range []string{b, b + "a", "a" + b, "a" + b + "a", b + b, `\` + b, `"` + b, b + `"`, "NIL" + b, "N" + b + "L", " " + b, times(1999, "a") + b} {
			lookAtStrings(t, s)
		}
	}
}

// P3.6, P3.8
func TestStringsOfManyTexts(t *testing.T) {
	pieces := []string{`"`, `\`, "\r", "\n", "{1}", "a", " ", "\x00"}
	everyText(pieces, 4, func(s string) { lookAtStrings(t, s) })
	r := rand.New(rand.NewPCG(3, 6))
	for range 10000 {
		lookAtStrings(t, randomText(r, pieces[:2+r.IntN(len(pieces)-1)], r.IntN(30)))
		lookAtStrings(t, randomText(r, []string{"N", "i", "l", "L", "*", "]", "é", "x", "y", "z"}, r.IntN(6)))
	}
}

// P3.6, P3.8: of great length.
func TestLongStrings(t *testing.T) {
	for _, n := range []int{1999, 2000, 2001, 100000} {
		for _, piece := range []string{`"`, `\`, "a", " ", "\r", "\n", "\x00", "\xff", "*"} {
			lookAtStrings(t, times(n, piece))
		}
		lookAtStrings(t, times(n-1, "a")+"\n")
		lookAtStrings(t, times(n-1, `\`)+"\x80")
	}
}

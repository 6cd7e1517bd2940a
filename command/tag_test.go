package command_test

import (
	"testing"

	"postbag/api"
	"postbag/command"
)

// P14.1: tags, lines that have none, and which error comes first.
func TestTags(t *testing.T) {
	for _, tag := range []string{"a", "A1", "nil", times(api.MaxTag, "t"), "a.b", "1", "~", "!#$&'", "UID", "<>", "a,b;c:d=e?f@g^h_i`j|k", "/"} {
		c, e := command.Read(tag+" NOOP", nil)
		if e != api.OK || c.Tag != tag || c.Verb != api.VerbNoop {
			t.Errorf("%q: %s, %d", tag, shown(c), e)
		}
		readsNot(t, api.ErrCommand, tag)
		readsNot(t, api.ErrCommand, tag+" ")
		readsNot(t, api.ErrCommand, tag+"  NOOP")
		readsNot(t, api.ErrCommand, tag+" NOOP ")
		readsNot(t, api.ErrCommand, tag+" \x00")
		readsNot(t, api.ErrCommand, tag+" (")
		readsNot(t, api.ErrCommand, tag+" \"NOOP\"")
		readsNot(t, api.ErrCommand, tag+" {4}", "NOOP")
	}
	for _, wrong := range []string{"", "+", "a+", "a+b", times(api.MaxTag+1, "t"), "(a)", "a(b)", "[a]", "\"a\"", "a\"b\"", "{1}", "a{1}", "a}", "*", "a%", "\\a", "\x00", "a\x00", "\xe4", "a\r", "\na", "\x7f", "\t"} {
		for _, rest := range []string{"", " ", " NOOP", " x", " \"", " (NOOP", "  NOOP"} {
			readsNot(t, api.ErrTag, wrong+rest)
		}
	}
	readsNot(t, api.ErrTag, "{1} NOOP", "a")
	readsNot(t, api.ErrTag, "{1} NOOP", "\x00")
	readsNot(t, api.ErrTag, " a NOOP")
	readsNot(t, api.ErrTag, "+ NOOP {1}", "x")
	readsNot(t, api.ErrTag, "+ NOOP", "left over")
}

// P14.1: what is too long comes ahead of a tag, a tag ahead of all else.
func TestOrder(t *testing.T) {
	long := times(api.MaxLiteral+1, "x")
	readsNot(t, api.ErrLong, times(api.MaxLine+1, "x"))
	readsNot(t, api.ErrLong, "a CREATE "+times(api.MaxLine-8, "x"))
	readsNot(t, api.ErrLong, "+"+times(api.MaxLine, " "))
	readsNot(t, api.ErrLong, "a NOOP", repeated(api.MaxWords+1, "")...)
	readsNot(t, api.ErrLong, "+ NOOP", repeated(api.MaxWords+1, "\x00")...)
	readsNot(t, api.ErrLong, "a CREATE {16385}", long)
	readsNot(t, api.ErrLong, "", "\x00", long)
	readsNot(t, api.ErrTag, times(api.MaxLine, "x"))
	readsNot(t, api.ErrTag, "+ NOOP", repeated(api.MaxWords, "\x00")...)
	readsNot(t, api.ErrTag, "+ x {1}", "\x00")
	readsNot(t, api.ErrCommand, "a NOOP", repeated(api.MaxWords, "")...)
	readsNot(t, api.ErrCommand, "a NOOP", "left over")
	readsNot(t, api.ErrCommand, "a CREATE {1}")
	readsNot(t, api.ErrCommand, "a CREATE {1}", "xy")
	readsNot(t, api.ErrCommand, "a CREATE {1}", "x", "y")
	readsNot(t, api.ErrCommand, "a CREATE {1}", "\x00")
	readsNot(t, api.ErrCommand, "a CREATE {16384}", times(api.MaxLiteral-1, "x")+"\x00")
	readsNot(t, api.ErrCommand, "a ENABLE "+row(api.MaxWords-1, "x"))
	if c := readOk(t, "a CREATE "+times(api.MaxLine-9, "x")); c.Name != times(api.MaxLine-9, "x") {
		t.Error("a line of MaxLine bytes")
	}
	if c := readOk(t, "a ENABLE "+row(api.MaxWords-2, "x")); len(c.Names) != api.MaxWords-2 {
		t.Error("a line of MaxWords words")
	}
	if c := readOk(t, "a APPEND {16384} {16384}", times(api.MaxLiteral, "\r"), times(api.MaxLiteral, "\n")); c.Name != times(api.MaxLiteral, "\r") || c.Body != times(api.MaxLiteral, "\n") {
		t.Error("literals of MaxLiteral bytes")
	}
	for _, verb := range []string{"x", "NOOPS", "NOO", "NO OP", "NIL", "+", "*", "%", "\\NOOP", "(NOOP)", "[NOOP]", "NOOP\x7f", "LOGINx y"} {
		readsNot(t, api.ErrCommand, "a "+verb)
		readsNot(t, api.ErrCommand, "a UID "+verb)
	}
}

package command_test

import (
	"strings"
	"testing"

	"postbag/api"
	"postbag/command"
)

// step feeds bytes, or turns Idle on ("+") or off ("-"), and holds what is told behind that.
type step struct{ do, want string }

const on, off = "+", "-"

func played(t *testing.T, rows ...[]step) {
	t.Helper()
	for i, row := range rows {
		r := command.New()
		for _, s := range row {
			switch s.do {
			case on, off:
				r.Idle(s.do == on)
			default:
				r.Feed(s.do)
			}
			if got := told(r); got != s.want {
				t.Errorf("row %d, behind %.60q: %q, not %q", i, s.do, got, s.want)
			}
		}
	}
}

// P14.6: the lines that end IDLE, and those that do not.
func TestIdleLines(t *testing.T) {
	for line, want := range map[string]string{
		"DONE": "done", "done": "done", "DoNe": "done",
		"": "bad::140", "DONE ": "bad::140", " DONE": "bad::140", "DON": "bad::140", "DONE1": "bad::140", "a NOOP": "bad::140", "a DONE": "bad::140", "\"DONE\"": "bad::140",
		"DONE {3}": "bad::140", "DONE {3+}": "bad::140", "{3}": "bad::140", "a CREATE {3+}": "bad::140", "a {99999}": "bad::140", "a {99999+}": "bad::140", "a {4294967296+}": "bad::140", "{4294967296}": "bad::140",
		"\x00": "bad::142", "DONE\x00": "bad::142", "DO\rNE": "bad::142", "DONE\r": "bad::142", "\nDONE": "bad::142", "\rDONE": "bad::142", "\r": "bad::142", "DO\x00NE": "bad::142", "a \x00 {4294967296+}": "bad::142",
		times(api.MaxLine-2, "x"): "bad::140", times(api.MaxLine-1, "x"): "bad::142", times(100000, "x"): "bad::142", times(api.MaxLine, "DONE"): "bad::142", times(api.MaxLine-8, "x") + " {1+}": "bad::140",
		"DONE" + times(5000, "\x00"): "bad::142", "\u017fone": "bad::140",
	} {
		played(t,
			[]step{{on, ""}, {line, ""}, {"\r", ""}, {"\n", want}, {"done\r\n", "done"}, {off, ""}, {"b NOOP\r\n", "b:2"}},
			[]step{{on, ""}, {line + crlf + line + crlf + "done\r\n" + line, want + " " + want + " done"}, {crlf, want}},
		)
	}
}

// P14.6: Idle is turned on and off ahead of a line, within it, between its CR and its LF, and within a command.
func TestIdleTurns(t *testing.T) {
	played(t,
		[]step{{on, ""}, {"done\r\nx NOOP\r\n", "done bad::140"}, {off, ""}, {"x NOOP\r\n", "x:2"}},
		[]step{{"do", ""}, {on, ""}, {"ne\r\n", "done"}},
		[]step{{"done\r", ""}, {on, ""}, {"\n", "done"}},
		[]step{{on, ""}, {"done\r", ""}, {off, ""}, {"\n", "bad:done:140"}},
		[]step{{on, ""}, {"a NOOP\r", ""}, {off, ""}, {"\n", "a:2"}},
		[]step{{on, ""}, {"a CREATE {1+}", ""}, {off, ""}, {"\r\nx\r\n", "a:7"}},
		[]step{{"a CREATE {1+}\r", ""}, {on, ""}, {"\n", "bad::140"}, {"x\r\n", "bad::140"}},
		[]step{{on, ""}, {off, ""}, {"done\r\n", "bad:done:140"}, {on, ""}, {on, ""}, {"done\r\n", "done"}},
		[]step{{on, ""}, {on, ""}, {off, ""}, {"a NOOP\r\n", "a:2"}, {off, ""}, {"a NOOP\r\n", "a:2"}},
		// A command that has begun goes on.
		[]step{{"a LOGIN {1}\r\n", "+"}, {on, ""}, {"x y\r\ndone\r\n", "a:4 done"}},
		[]step{{"a LOGIN {1+}\r\n", ""}, {on, ""}, {"x y\r\ndone\r\n", "a:4 done"}},
		[]step{{"a LOGIN {1}\r\nx", "+"}, {on, ""}, {" {1}\r\n", "+"}, {"y", ""}, {"\r\n", "a:4"}, {"a NOOP\r\n", "bad::140"}},
		[]step{{"a CREATE {0+}\r\n", ""}, {on, ""}, {"\r\n", "a:7"}, {"\r\n", "bad::140"}},
		[]step{{"a CREATE {0}\r\n", "+"}, {on, ""}, {"done\r\n", "bad:a:140"}, {"done\r\n", "done"}},
		[]step{{"a CREATE {99999+}\r\n", ""}, {on, ""}, {times(99999, "x"), ""}, {"done\r\n", "bad:a:143"}, {"done\r\n", "done"}},
		[]step{{"a \x00 {4+}\r\n", ""}, {on, ""}, {"done\r\n", "bad:a:142"}, {"done\r\n", "done"}},
		[]step{{"a X {1+}\r\n", ""}, {on, ""}, {"x {99999}\r\n", "bad:a:143"}, {"done\r\n", "done"}},
		[]step{{"a X {1+}\r\n", ""}, {on, ""}, {"x {4294967296+}\r\n", "bad:a:3"}, {"done\r\n", ""}},
		[]step{{"a X {1+}\r\n", ""}, {on, ""}, {"x ", ""}, {off, ""}, {"\r", ""}, {on, ""}, {"\n", "bad:a:140"}},
		// One that is refused with its first piece is over.
		[]step{{"a CREATE {99999}\r\n", "bad:a:143"}, {on, ""}, {"done\r\n", "done"}},
		[]step{{"a \x00 {4}\r\n", "bad:a:142"}, {on, ""}, {"done\r\n", "done"}},
	)
	// What counts is the Next that sees the CR LF, not the Feed that brought it.
	r := command.New()
	r.Feed("done\r\ndone\r\na CREATE {4+}\r\ndone\r\n")
	r.Idle(true)
	if in, is := r.Next(); !is || short(in) != "done" {
		t.Errorf("%+v", in)
	}
	r.Idle(false)
	if in, is := r.Next(); !is || short(in) != "bad:done:140" {
		t.Errorf("%+v", in)
	}
	r.Idle(true)
	if s := told(r); s != "bad::140 done" {
		t.Errorf("%q", s)
	}
	r = command.New()
	r.Feed("a LOGIN {1}\r\nx {1}\r\ny\r\ndone\r\n")
	if in, is := r.Next(); !is || short(in) != "+" {
		t.Errorf("%+v", in)
	}
	r.Idle(true)
	if s := told(r); s != "+ a:4 done" {
		t.Errorf("%q", s)
	}
}

// P14.8: what is pending behind each input, and behind none.
func TestPending(t *testing.T) {
	r := command.New()
	pending := func(want int) {
		t.Helper()
		for range 2 {
			if n := r.Pending(); n != want {
				t.Fatalf("%d pending, not %d", n, want)
			}
		}
	}
	next := func(want string) {
		t.Helper()
		in, is := r.Next()
		if got := short(in); is != (want != "") || is && got != want {
			t.Fatalf("%s, not %s", got, want)
		}
	}
	pending(0)
	r.Feed("")
	pending(0)
	next("")
	pending(0)
	r.Feed("a NO")
	pending(4)
	next("")
	pending(4)
	r.Feed("OP\r")
	next("")
	pending(7)
	r.Feed("\nb")
	pending(9)
	next("a:2")
	pending(1)
	next("")
	pending(1)
	r.Feed(" LOGIN {3}\r\njoe {0+}\r\n\r\nc")
	pending(26)
	next("+")
	pending(26)
	next("b:4")
	pending(1)
	r.Feed(" \x00 {99999+}\r\n")
	pending(14)
	next("")
	pending(14)
	for i := range 9 {
		r.Feed(times(11111, "\r"))
		next("")
		pending(14 + 11111*(i+1))
	}
	r.Feed("\r\nd NOOP\r\n\r\n")
	next("bad:c:142")
	pending(10)
	next("d:2")
	pending(2)
	r.Idle(true)
	pending(2)
	next("bad::140")
	pending(0)
	r.Feed("don")
	next("")
	pending(3)
	r.Feed("e\r\nx\r\n")
	next("done")
	pending(3)
	next("bad::140")
	pending(0)
	r.Idle(false)
	r.Feed("e CREATE {3}\r\n")
	next("+")
	pending(14)
	r.Feed("xyz\r\n")
	pending(19)
	next("e:7")
	pending(0)
	r.Feed("e CREATE {16385}\r\nfg")
	next("bad:e:143")
	pending(2)
	r.Feed(" {4294967296+}\r\nx")
	pending(19)
	next("bad:fg:3")
	pending(0)
	r.Feed("more\r\n")
	pending(0)
	next("")
	pending(0)
}

// P14.9: a zero Reader and a nil one; two in turns have nothing in common.
func TestReaders(t *testing.T) {
	var none *command.Reader
	none.Feed("a NOOP\r\n")
	none.Idle(true)
	if in, is := none.Next(); is || short(in) != short(api.Input{}) || none.Pending() != 0 {
		t.Error("a nil reader")
	}
	var zero command.Reader
	if in, is := zero.Next(); is || in.Kind != 0 || zero.Pending() != 0 {
		t.Error("a zero reader")
	}
	zero.Feed("a CREATE {1}\r\nx\r\n")
	if s := told(&zero); s != "+ a:7" {
		t.Error(s)
	}
	one, two := command.New(), command.New()
	one.Idle(true)
	one.Feed("do")
	two.Feed("a CREATE {4}\r\n")
	if s := told(two); s != "+" || one.Pending() != 2 || two.Pending() != 14 {
		t.Error(s)
	}
	one.Feed("ne\r\nd")
	two.Feed("done")
	if s := told(one) + "|" + told(two); s != "done|" {
		t.Error(s)
	}
	two.Feed("\r\nb NOOP\r\n")
	one.Feed("one\r\n")
	if s := told(two) + "|" + told(one); s != "a:7 b:2|done" {
		t.Error(s)
	}
	two.Feed("{4294967296+}\r\n")
	if s := told(two); s != "bad::3" {
		t.Error(s)
	}
	one.Idle(false)
	one.Feed("a NOOP\r\n")
	if s := told(one); s != "a:2" {
		t.Error(s)
	}
	if s := told(command.New()); s != "" || strings.Contains(s, " ") {
		t.Error(s)
	}
}

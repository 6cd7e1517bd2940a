package server_test

import (
	"fmt"
	"strings"
	"testing"

	"postbag/api"
)

// P18.3: a connection begins with a new session, which is fresh, and a new reader.
func TestOpen(t *testing.T) {
	m := build(t, someRules())
	for _, conn := range []int{3, 1, 4, 2} {
		m.want(open(conn), fmt.Sprint(conn, " ", hello))
	}
	m.wantStates(api.StateFresh, api.StateFresh, api.StateFresh, api.StateFresh)
	m.want(lines(3, "a SELECT inbox"), "3 a BAD not now")
	m.want(lines(3, "a LOGIN u p"), "3 a OK LOGIN done")
	m.want(lines(2, "a SELECT inbox"), "2 a BAD not now")
	m.wantStates(api.StateFresh, api.StateFresh, api.StateKnown, api.StateFresh)
}

// P18.4: a step with several commands and half a one.
func TestSeveralCommands(t *testing.T) {
	m := build(t, someRules())
	m.do(open(1))
	m.want(bytes(1, "a NOOP\r\nb LOGIN u p\r\nc CREATE q\r\nd NO"), "1 a OK NOOP done", "1 b OK LOGIN done", "1 c OK CREATE done")
	m.want(bytes(1, ""))
	m.want(bytes(1, "OP\r"))
	m.want(bytes(1, "\ne FROB\r\n\r\n f NOOP\r\ng CREATE q\r\nh"), "1 d OK NOOP done", "1 e BAD no command", "1 * BAD no tag", "1 * BAD no tag", "1 g NO [ALREADYEXISTS] there is such a mailbox")
	m.want(bytes(1, " LOGOUT\r\n"), "1 * BYE until next time|h OK LOGOUT done!")
}

// P18.4: literals of both kinds, over several steps.
func TestLiterals(t *testing.T) {
	m := entered(t, 1, someRules())
	m.want(bytes(1, "a APPEND inbox {5}\r\n"), "1 + go ahead")
	m.want(bytes(1, "he"))
	m.want(bytes(1, "llo"))
	m.want(bytes(1, "\r\n"), "1 a OK [APPENDUID 1 1] APPEND done")
	m.want(bytes(1, "b APPEND inbox {5+}\r"))
	m.want(bytes(1, "\nhel"))
	m.want(bytes(1, "lo\r\nc CREATE {1}\r\nq {1+}\r\n"), "1 b OK [APPENDUID 1 2] APPEND done", "1 + go ahead")
	m.want(bytes(1, "\n\r\nd CREATE {1}\r\nq\r\n"), "1 c BAD no command", "1 + go ahead", "1 d OK CREATE done")
	m.want(bytes(1, "e CREATE {99999}\r\nf CREATE {16385+}\r\n"), "1 e BAD no literal")
	m.want(bytes(1, strings.Repeat("g NOOP\r\n", 2048)))
	m.want(bytes(1, "x\r\ng NOOP\r\n"), "1 f BAD no literal", "1 g OK NOOP done")
	m.want(bytes(1, "h NOOP {4294967295+}\r\n"))
	m.want(bytes(1, "i NOOP\r\n"))
	m.wantBoxes("INBOX", "q")
}

// P18.4: LOGOUT in the midst of a step: what stands behind it is lost, and the connection is not open any more.
func TestLogoutInTheMidst(t *testing.T) {
	m := entered(t, 3, someRules())
	m.want(lines(2, "a SELECT inbox"), selects(2, "a", 0, 0, 1, 1))
	m.want(lines(3, "a SELECT inbox", "b IDLE"), selects(3, "a", 0, 0, 1, 1), "3 + idling")
	m.want(lines(2, "b APPEND inbox "+literal("x"), "c LOGOUT", "d APPEND inbox "+literal("y"), "e NOOP"),
		"2 * 1 EXISTS|* 1 RECENT|b OK [APPENDUID 1 1] APPEND done", "3 * 1 EXISTS|* 0 RECENT", "2 * BYE until next time|c OK LOGOUT done!")
	m.refused(lines(2, "f NOOP"), api.ErrConn)
	m.refused(cut(2), api.ErrConn)
	m.wantStates(api.StateKnown, api.StateSelected)
	m.wantLast(2)
	m.want(open(2), "2 "+hello)
	m.want(lines(2, "a NOOP"), "2 a OK NOOP done")
	m.want(lines(2, "b NOOP", "c NOOP {4294967296+}", "d NOOP"), "2 b OK NOOP done", "2 * BYE that is too much!")
	m.refused(bytes(2, "x"), api.ErrConn)
	m.wantStates(api.StateKnown, api.StateSelected)
}

// P18.4: a mailbox that a connection had selected is free behind its LOGOUT, within the step too.
func TestLogoutLeaves(t *testing.T) {
	m := entered(t, 2, someRules())
	m.done(1, "a CREATE q", "b SELECT q")
	m.want(lines(2, "a DELETE q"), "2 a "+inUse)
	m.want(lines(1, "c LOGOUT"), "1 * BYE until next time|c OK LOGOUT done!")
	m.want(lines(2, "b DELETE q"), "2 b OK DELETE done")
}

// P18.4: IDLE is turned on and off within one step, by its end and by anything else.
func TestIdleWithinAStep(t *testing.T) {
	m := entered(t, 2, someRules())
	m.done(2, "a SELECT inbox", "b IDLE")
	m.want(lines(1, "a IDLE", "done", "b IDLE", "c NOOP", "d NOOP", "e IDLE", "f APPEND inbox "+literal("x"), "g IDLE"),
		"1 + idling", "1 a OK IDLE done", "1 + idling", "1 b BAD IDLE is over", "1 d OK NOOP done", "1 + idling", "1 e BAD IDLE is over", "1 x BAD no command", "1 + idling")
	m.wantLast(1)
	m.want(bytes(1, "DO"))
	m.want(bytes(1, "NE\r\nh APPEND inbox "+literal("x")+"\r\ni NOOP\r\n"), "1 g OK IDLE done", "1 h OK [APPENDUID 1 1] APPEND done", "2 * 1 EXISTS|* 1 RECENT", "1 i OK NOOP done")
	m.want(lines(2, "DONE", "DONE", "c NOOP"), "2 b OK IDLE done", "2 DONE BAD no command", "2 c OK NOOP done")
}

// P18.4: every other connection that is open hears an event, by rising numbers, ahead of the next command of the same step; who has nothing to say has no word.
func TestWhoHears(t *testing.T) {
	m := entered(t, 4, someRules())
	m.done(1, "a CREATE q")
	m.done(4, "a SELECT inbox", "b IDLE")
	m.done(2, "a EXAMINE inbox", "b IDLE")
	m.done(1, "b SELECT q", "c IDLE")
	m.want(lines(3, "a APPEND inbox "+literal("x"), "b SELECT inbox", `c STORE 1 +FLAGS (\Seen)`, "d NOOP"),
		"3 a OK [APPENDUID 1 1] APPEND done", "2 * 1 EXISTS|* 1 RECENT", "4 * 1 EXISTS|* 1 RECENT",
		selects(3, "b", 1, 0, 2, 3, 1),
		`3 * 1 FETCH (FLAGS (\Seen))|c OK STORE done`, `2 * 1 FETCH (UID 1 FLAGS (\Seen \Recent))`, `4 * 1 FETCH (UID 1 FLAGS (\Seen \Recent))`,
		"3 d OK NOOP done")
	m.want(lines(3, "e APPEND q "+literal("x"), "f UID MOVE 1 q"),
		"3 e OK [APPENDUID 2 1] APPEND done", "1 * 1 EXISTS|* 1 RECENT",
		"3 * OK [COPYUID 2 1 2] moved|* 1 EXPUNGE|f OK UID MOVE done", "1 * 2 EXISTS|* 2 RECENT", "2 * 1 EXPUNGE", "4 * 1 EXPUNGE")
	m.want(lines(3, "g CREATE r", "h SUBSCRIBE r", "i STORE 1 FLAGS ()"), "3 g OK CREATE done", "3 h OK SUBSCRIBE done", "3 i BAD no such message")
	m.want(cut(2))
	m.want(lines(4, "DONE", "c APPEND inbox "+literal("y")), "4 b OK IDLE done", "4 * 1 EXISTS|* 1 RECENT|c OK [APPENDUID 1 2] APPEND done")
	m.want(lines(3, "j NOOP"), "3 * 1 EXISTS|* 0 RECENT|j OK NOOP done")
}

// P18.4, T8: what was heard without IDLE is told with the next command.
func TestHeardAndToldLater(t *testing.T) {
	m := entered(t, 3, someRules())
	m.done(1, "a SELECT inbox")
	m.done(3, "a SELECT inbox")
	m.want(lines(2, "a APPEND inbox "+literal("x"), "b APPEND inbox "+literal("y")), "2 a OK [APPENDUID 1 1] APPEND done", "2 b OK [APPENDUID 1 2] APPEND done")
	m.want(lines(3, "b NOOP"), "3 * 2 EXISTS|* 2 RECENT|b OK NOOP done")
	m.want(lines(1, "b FETCH 1 UID"), "1 b BAD no such message")
	m.want(lines(1, "c NOOP"), "1 * 2 EXISTS|* 0 RECENT|c OK NOOP done")
	m.want(lines(3, `c STORE 1 +FLAGS.SILENT (\Deleted)`, "d EXPUNGE"), "3 c OK STORE done", "3 * 1 EXPUNGE|d OK EXPUNGE done")
	m.want(lines(1, "d FETCH 1 UID", "e FETCH 2 UID", "f UID FETCH 2 UID"), "1 d NO [EXPUNGEISSUED] some of these have gone", "1 * 2 FETCH (UID 2)|e OK FETCH done", "1 * 2 FETCH (UID 2)|* 1 EXPUNGE|f OK UID FETCH done")
}

// P18.4: a command that is refused for want of room, and one that changes nothing, are heard by nobody.
func TestNothingToHear(t *testing.T) {
	rules := someRules()
	rules.Quota = api.Reserve + 60
	m := entered(t, 2, rules)
	m.done(1, "a APPEND inbox "+literal("x"), "b SELECT inbox")
	m.done(2, "a SELECT inbox", "b IDLE")
	m.want(lines(1, "c APPEND inbox "+literal("xx"), `d STORE 1 -FLAGS (\Seen)`, "e EXPUNGE", "f LIST"), "1 c "+isFull, `1 * 1 FETCH (FLAGS (\Recent))|d OK STORE done`, "1 e OK EXPUNGE done", "1 f BAD no command")
	m.wantLast(2)
}

// P18.5: nothing is sent to anybody by a cut, wherever it falls; the others see that the mailbox is free, and nothing else.
func TestCut(t *testing.T) {
	for _, c := range []struct {
		what  string
		ahead []string
	}{
		{"selected", []string{"a CREATE q\r\n", "b SELECT q\r\n"}},
		{"examined", []string{"a CREATE q\r\n", "b EXAMINE q\r\n"}},
		{"in IDLE", []string{"a CREATE q\r\n", "b SELECT q\r\n", "c IDLE\r\n"}},
		{"in a line", []string{"a CREATE q\r\n", "b SELECT q\r\n", "c CREATE r"}},
		{"in a literal", []string{"a CREATE q\r\n", "b SELECT q\r\n", "c APPEND q {3}\r\n", "xy"}},
		{"behind a literal", []string{"a CREATE q\r\n", "b SELECT q\r\n", "c APPEND q {3+}\r\nxyz"}},
		{"in a swallowed literal", []string{"a CREATE q\r\n", "b SELECT q\r\n", "c APPEND q {99999+}\r\nxyz"}},
	} {
		m := entered(t, 3, someRules())
		for _, text := range c.ahead {
			m.do(bytes(1, text))
		}
		m.done(3, "a SELECT q", "b IDLE")
		was := m.look()
		m.want(cut(1))
		if is := m.look(); is.frozen != was.frozen || fmt.Sprint(is.files) != fmt.Sprint(was.files) || is.down {
			t.Errorf("P18.5: %s: something has changed", c.what)
		}
		m.wantStates(api.StateKnown, api.StateSelected)
		m.refused(cut(1), api.ErrConn)
		m.refused(lines(1, "d NOOP"), api.ErrConn)
		m.want(lines(2, "a APPEND q "+literal("x"), "b DELETE q"), "2 a OK [APPENDUID 2 1] APPEND done", "3 * 1 EXISTS|* 1 RECENT", "2 b "+inUse)
		m.want(cut(3))
		m.want(lines(2, "c DELETE q"), "2 c OK DELETE done")
		m.want(open(1), "1 "+hello)
		m.want(lines(1, "z NOOP"), "1 z OK NOOP done")
	}
}

// P18.5: a fresh connection is cut, and one that is only known.
func TestCutOfOthers(t *testing.T) {
	m := build(t, someRules())
	m.do(open(2))
	m.want(cut(2))
	m.wantStates()
	m.enter(2)
	m.want(cut(2))
	m.wantStates()
	if m.Down() {
		t.Error("P18.5: a cut has stopped the machine")
	}
}

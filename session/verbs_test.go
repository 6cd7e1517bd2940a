package session_test

import (
	"strings"
	"testing"

	"postbag/api"
)

// oneLine is a command with the tag t, and in which states it may be given.
type oneLine struct {
	verb, text string
	states     string // all, fresh, known (or selected), selected
	literals   []string
}

// everyLine has each verb, with UID too where that may stand.
func everyLine() []oneLine {
	var out []oneLine
	for states, lines := range map[string][]string{
		"all":   {"CAPABILITY", "NOOP", "LOGOUT"},
		"fresh": {"LOGIN u p"},
		"known": {
			"SELECT inbox", "EXAMINE inbox", "CREATE x", "DELETE x", "RENAME x y", "SUBSCRIBE inbox", "UNSUBSCRIBE inbox",
			`LIST "" *`, `LSUB "" *`, "STATUS inbox (MESSAGES)", "APPEND inbox {1}", "IDLE", "NAMESPACE", "ENABLE x",
		},
		"selected": {
			"CHECK", "CLOSE", "UNSELECT", "EXPUNGE", "SEARCH ALL", "FETCH 1 UID", "STORE 1 FLAGS ()", "COPY 1 x", "MOVE 1 x",
			"SORT (DATE) UTF-8 ALL", "THREAD REFERENCES UTF-8 ALL",
			"UID EXPUNGE 1", "UID SEARCH ALL", "UID FETCH 1 FLAGS", "UID STORE 1 FLAGS ()", "UID COPY 1 x", "UID MOVE 1 x",
			"UID SORT (DATE) UTF-8 ALL", "UID THREAD ORDEREDSUBJECT UTF-8 ALL",
		},
	} {
		for _, line := range lines {
			one := oneLine{strings.Fields(strings.TrimPrefix(line, "UID "))[0], "t " + line, states, nil}
			if one.verb == "APPEND" {
				one.literals = []string{"x"}
			}
			out = append(out, one)
		}
	}
	return out
}

// P17.3: every verb in every state; where it may not be given nothing else is told, and nothing has changed.
func TestVerbsInStates(t *testing.T) {
	states := map[int]string{api.StateFresh: "all fresh", api.StateKnown: "all known", api.StateSelected: "all known selected"}
	lines := everyLine()
	if len(lines) != 29+8 {
		t.Fatalf("%d lines", len(lines))
	}
	for state, may := range states {
		for _, line := range lines {
			h := at(t, state, false)
			sight, frozen := h.conns[0].Sight(), h.store().Freeze()
			told := h.take(0, command1(t, line.text, line.literals...))
			refused := len(told) == 1 && told[0] == "t "+notNow
			if want := !strings.Contains(" "+may+" ", " "+line.states+" "); refused != want {
				t.Errorf("P17.3: %q in %d: %q", line.text, state, told)
			}
			if refused {
				h.wantSight(0, sight)
				if frozen != h.store().Freeze() {
					t.Errorf("P17.3: %q in %d: an event", line.text, state)
				}
			}
			if !refused && line.verb != "IDLE" {
				h.wantTag(line.text, told)
			}
		}
	}
}

// wantTag holds that the last line is the tagged answer: OK with the verb's name, or NO, or BAD.
func (h *house) wantTag(text string, told []string) {
	h.t.Helper()
	name := strings.Fields(text)[1]
	if name == "UID" {
		name += " " + strings.Fields(text)[2]
	}
	last := told[len(told)-1]
	if !strings.HasPrefix(last, "t NO ") && !strings.HasPrefix(last, "t BAD ") && !(strings.HasPrefix(last, "t OK ") && strings.HasSuffix(last, " "+name+" done")) {
		h.t.Errorf("P17.3: %q: %q", text, told)
	}
}

// P17.3: a verb that there is not is not for any state.
func TestNoVerb(t *testing.T) {
	for _, verb := range []int{-1 << 63, -1, 0, api.VerbEnable + 1, 1<<63 - 1} {
		h := at(t, api.StateSelected, false)
		if got := h.take(0, api.Input{Kind: api.InCommand, Command: api.Command{Tag: "t", Verb: verb}}); len(got) != 1 || got[0] != "t "+notNow {
			t.Errorf("verb %d: %q", verb, got)
		}
	}
}

// twoMails is a house with two messages in INBOX, of uids 1 and 2, selected by the first connection; the second one is logged in.
func twoMails(t *testing.T) *house {
	t.Helper()
	h := entered(t, 2, someRules())
	h.add(1, "inbox", "", "x", "y")
	h.done(0, "s SELECT inbox")
	return h
}

// isOn asks whether CONDSTORE is on: then STORE tells MODSEQ.
func (h *house) isOn(k int) bool {
	h.t.Helper()
	told := h.say(k, `on UID STORE 1:* +FLAGS (\Draft)`)
	return strings.Contains(strings.Join(told, " "), "MODSEQ (")
}

// P17.3, T14: what turns CONDSTORE on, answered OK, NO, or BAD since there is no such number; and what does not.
func TestCondstore(t *testing.T) {
	for line, want := range map[string]bool{
		"a ENABLE CONDSTORE":                               true,
		"a ENABLE x condStore y":                           true,
		"a ENABLE CONDSTORES":                              false,
		"a ENABLE x QRESYNC":                               false,
		"a SELECT inbox (CONDSTORE)":                       true,
		"a SELECT inbox":                                   false,
		"a FETCH 1 MODSEQ":                                 true,
		"a FETCH 1 (UID FLAGS MODSEQ)":                     true,
		"a FETCH 1 UID (CHANGEDSINCE 1)":                   true,
		"a UID FETCH 99 UID (CHANGEDSINCE 99)":             true,
		"a FETCH 3 MODSEQ":                                 true, // BAD: no such message
		"a FETCH 3 UID (CHANGEDSINCE 1)":                   true,
		"a FETCH 1 FLAGS":                                  false,
		"a FETCH 1 BODY[]":                                 false,
		"a STORE 1 (UNCHANGEDSINCE 0) FLAGS (k)":           true,
		"a STORE 3 (UNCHANGEDSINCE 0) FLAGS (k)":           true,
		"a STORE 1 FLAGS (k)":                              false,
		"a SEARCH MODSEQ 1":                                true,
		"a SEARCH CHARSET x MODSEQ 1":                      true, // NO
		"a SEARCH OR SEEN NOT (FLAGGED (SEEN MODSEQ 999))": true,
		"a SEARCH ALL":                                     false,
		"a SORT (DATE) utf-8 ALL MODSEQ 1":                 true,
		"a SORT (DATE) x MODSEQ 1":                         true,
		"a SORT (DATE) utf-8 ALL":                          false,
		"a THREAD REFERENCES utf-8 NOT MODSEQ 1":           true,
		"a THREAD REFERENCES utf-8 ALL":                    false,
		"a STATUS inbox (HIGHESTMODSEQ)":                   true,
		"a STATUS q (MESSAGES HIGHESTMODSEQ)":              true, // NO
		"a STATUS inbox (MESSAGES UIDNEXT)":                false,
		"a EXPUNGE":                                        false,
		"a NOOP":                                           false,
	} {
		h := twoMails(t)
		h.say(0, line)
		if got := h.isOn(0); got != want {
			t.Errorf("P17.3: %q: CONDSTORE %v", line, got)
		}
		if !h.isOn(0) && want {
			t.Errorf("P17.3: %q: not on any more", line)
		}
	}
	h := twoMails(t)
	h.want(0, "a SELECT q (CONDSTORE)", "* OK [CLOSED] the mailbox is closed", "a "+isNone)
	h.done(0, "b SELECT inbox")
	if !h.isOn(0) {
		t.Error("P17.3: SELECT that is refused")
	}
	h = twoMails(t)
	h.done(0, "a EXAMINE inbox (CONDSTORE)", "a SELECT inbox")
	if !h.isOn(0) {
		t.Error("P17.3: EXAMINE")
	}
}

// P17.3, T14: a command that is not for the state turns nothing on.
func TestCondstoreNotNow(t *testing.T) {
	h := build(t, 1, someRules())
	for _, line := range []string{"a ENABLE CONDSTORE", "a SELECT inbox (CONDSTORE)", "a STATUS inbox (HIGHESTMODSEQ)"} {
		h.want(0, line, "a "+notNow)
	}
	h.done(0, "l LOGIN u p")
	for _, line := range []string{"a FETCH 1 MODSEQ", "a STORE 1 (UNCHANGEDSINCE 1) FLAGS ()", "a SEARCH MODSEQ 1", "a SORT (DATE) utf-8 MODSEQ 1", "a THREAD REFERENCES utf-8 MODSEQ 1"} {
		h.want(0, line, "a "+notNow)
	}
	h.add(0, "inbox", "", "x")
	h.done(0, "a SELECT inbox")
	h.want(0, "b FETCH 1 (MODSEQ", "b BAD no command")
	h.want(0, "b ENABLE", "b BAD no command")
	if h.isOn(0) {
		t.Error("P17.3: CONDSTORE is on")
	}
	h.want(0, "c ENABLE condstore", "* ENABLED CONDSTORE", "c OK ENABLE done")
}

// P17.3, T14: the command's own answers tell modseqs already.
func TestCondstoreAtOnce(t *testing.T) {
	h := twoMails(t)
	h.want(0, "a STORE 1 (UNCHANGEDSINCE 9) FLAGS (k)", `* 1 FETCH (FLAGS (k \Recent) MODSEQ (4))`, "a OK STORE done")
	h = twoMails(t)
	h.want(0, "a FETCH 1 (MODSEQ BODY[])", `* 1 FETCH (MODSEQ (4) BODY[] "x" FLAGS (\Seen \Recent))`, "a OK FETCH done")
	h = twoMails(t)
	e, _, code := h.store().Flags(1, []int{2}, 0, []string{"k"}, -1)
	h.commit(e, code)
	h.want(0, "a ENABLE CONDSTORE", "* ENABLED CONDSTORE", `* 2 FETCH (UID 2 FLAGS (k \Recent) MODSEQ (4))`, "a OK ENABLE done")
}

// goneHouse is twoMails, where the first message has gone and that was not told; the third one, of the uid 3, too was not told of.
func goneHouse(t *testing.T) *house {
	t.Helper()
	h := twoMails(t)
	h.commit(h.store().Expunge(1, []int{1}))
	h.commit(h.store().Add("INBOX", nil, now, "z"))
	return h
}

// P17.3: a set by number that is refused, ahead of every NO; nothing else is told.
func TestNoSuchMessage(t *testing.T) {
	for _, set := range []string{"3", "2:3", "1,4294967295", "4:5", "1,2,3:*,9"} {
		for _, line := range []string{"FETCH %s FLAGS", "FETCH %s (BODY[] MODSEQ) (CHANGEDSINCE 1)", `STORE %s FLAGS (\Seen)`, "STORE %s (UNCHANGEDSINCE 0) FLAGS.SILENT (a b c d e f g h i)", "COPY %s nowhere", `COPY %s "%%"`, "MOVE %s nowhere", `MOVE %s "%%"`, "MOVE %s inbox"} {
			line = strings.ReplaceAll(strings.ReplaceAll(line, "%s", set), "%%", "%")
			for _, verb := range []string{"SELECT", "EXAMINE"} {
				h := twoMails(t)
				h.done(0, "s "+verb+" inbox")
				h.commit(h.store().Expunge(1, []int{1}))
				h.commit(h.store().Add("INBOX", nil, now, "z"))
				h.want(0, "a "+line, "a "+noSuch)
				h.want(0, "n NOOP", "* 1 EXPUNGE", "* 2 EXISTS", "* 1 RECENT", "n OK NOOP done")
			}
		}
	}
	h := entered(t, 1, someRules())
	h.done(0, "s SELECT inbox")
	for _, line := range []string{"FETCH * UID", "FETCH 1:* UID", "STORE * FLAGS ()", "COPY *:1 q", "MOVE * q"} {
		h.want(0, "a "+line, "a "+noSuch)
	}
	for _, line := range []string{"UID FETCH * UID", "UID FETCH 1:* UID", "UID STORE 7 FLAGS ()"} {
		h.want(0, "a "+line, "a OK "+strings.Join(strings.Fields(line)[:2], " ")+" done")
	}
	h.want(0, "a UID COPY * q", "a "+tryIt)
}

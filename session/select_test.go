package session_test

import (
	"fmt"
	"slices"
	"strings"
	"testing"

	"postbag/api"
)

const isClosed = "* OK [CLOSED] the mailbox is closed"

// P17.5: SELECT and EXAMINE in the states known and selected; the mailbox that was selected is left first.
func TestSelect(t *testing.T) {
	h := entered(t, 2, someRules())
	h.done(0, "a CREATE q")
	h.add(0, "inbox", `\Seen`, "x")
	h.add(0, "inbox", "", "y", "z")
	h.want(0, "a SELECT inBox", append(selects(3, 3, 4, 5, 2), "a OK [READ-WRITE] SELECT done")...)
	h.wantSight(0, api.SessionSight{State: api.StateSelected, Box: 1, Uids: []int{1, 2, 3}})
	h.wantHeld(1, 1)
	// It has been taken what is recent; again it is not.
	h.want(0, "a SELECT inbox", append(append([]string{isClosed}, selects(3, 0, 4, 5, 2)...), "a OK [READ-WRITE] SELECT done")...)
	h.wantHeld(1, 1)
	h.want(1, "a EXAMINE inbox", asRead(selects(3, 0, 4, 5, 2), "a OK [READ-ONLY] EXAMINE done")...)
	h.wantSight(1, api.SessionSight{State: api.StateSelected, Box: 1, ReadOnly: true, Uids: []int{1, 2, 3}})
	h.wantHeld(1, 2)
	h.want(1, "a SELECT q", isClosed, "* FLAGS ("+five+")", "* 0 EXISTS", "* 0 RECENT",
		"* OK [PERMANENTFLAGS ("+five+` \*)] these can be kept`, "* OK [UIDNEXT 1] the next uid", "* OK [UIDVALIDITY 2] the validity", "* OK [HIGHESTMODSEQ 2] the highest modseq", "a OK [READ-WRITE] SELECT done")
	h.wantHeld(1, 1)
	h.wantHeld(2, 1)
	h.wantSight(1, api.SessionSight{State: api.StateSelected, Box: 2})
}

// asRead is what EXAMINE tells where SELECT would tell some lines.
func asRead(lines []string, last string) []string {
	for i, line := range lines {
		if strings.HasPrefix(line, "* OK [PERMANENTFLAGS ") {
			lines[i] = "* OK [PERMANENTFLAGS ()] these can be kept"
		}
	}
	return append(lines, last)
}

// P17.5: SELECT and EXAMINE that are refused leave no mailbox selected; CLOSED comes ahead of the NO, and no news.
func TestSelectRefused(t *testing.T) {
	for _, verb := range []string{"SELECT", "EXAMINE"} {
		h := goneHouse(t)
		h.want(0, "a "+verb+" nowhere", isClosed, "a "+isNone)
		h.wantSight(0, api.SessionSight{State: api.StateKnown})
		h.wantHeld(1, 0)
		h.want(0, "a "+verb+" nowhere", "a "+isNone)
		h.wantSight(0, api.SessionSight{State: api.StateKnown})
		h.want(0, "a NOOP", "a OK NOOP done")
		h.want(0, "a FETCH 1 UID", "a "+notNow)
		h.want(0, "a SELECT inbox", append(selects(2, 1, 4, 5, 1), "a OK [READ-WRITE] SELECT done")...)
	}
}

// P17.5: the news that was not told is none for the mailbox that is selected next, the same one too.
func TestSelectAgain(t *testing.T) {
	h := goneHouse(t)
	h.want(0, "a SELECT inbox", append(append([]string{isClosed}, selects(2, 1, 4, 5, 1)...), "a OK [READ-WRITE] SELECT done")...)
	h.want(0, "a NOOP", "a OK NOOP done")
	h.wantSight(0, api.SessionSight{State: api.StateSelected, Box: 1, Uids: []int{2, 3}})
	h.want(0, "a SEARCH RECENT", "* SEARCH 2", "a OK SEARCH done")
}

// P17.5: the first unseen message, wherever it stands.
func TestUnseen(t *testing.T) {
	h := entered(t, 1, someRules())
	unseen := func(want string) {
		t.Helper()
		got := slices.DeleteFunc(h.say(0, "a SELECT inbox"), func(line string) bool { return !strings.Contains(line, "[UNSEEN") })
		if strings.Join(got, " ") != want {
			t.Errorf("P17.5: %q, not %q", got, want)
		}
	}
	unseen("")
	h.add(0, "inbox", `\Seen`, "x", "y")
	unseen("")
	h.add(0, "inbox", `\Answered \Deleted \Draft \Flagged seen`, "z")
	unseen("* OK [UNSEEN 3] the first unseen one")
	h.add(0, "inbox", "", "w")
	unseen("* OK [UNSEEN 3] the first unseen one")
	h.done(0, `a STORE 1 -FLAGS (\Seen)`)
	unseen("* OK [UNSEEN 1] the first unseen one")
	h.done(0, `a STORE 1:3 +FLAGS (\Seen \Deleted)`, "a EXPUNGE")
	unseen("* OK [UNSEEN 1] the first unseen one")
}

// P17.5: the keywords, and whether there is room for more.
func TestKeywords(t *testing.T) {
	h := entered(t, 1, someRules())
	h.add(0, "inbox", "b Nil 5", "x")
	h.add(0, "inbox", `A \Seen`, "x")
	want := func(line, flags, kept string) {
		t.Helper()
		got := h.say(0, line)
		if !slices.Contains(got, "* FLAGS ("+flags+")") || !slices.Contains(got, "* OK [PERMANENTFLAGS ("+kept+")] these can be kept") {
			t.Errorf("P17.5: %q: %q", line, got)
		}
	}
	want("a SELECT inbox", five+" 5 A b Nil", five+` 5 A b Nil \*`)
	want("a EXAMINE inbox", five+" 5 A b Nil", "")
	h.add(0, "inbox", "c d e", "x")
	want("a SELECT inbox", five+" 5 A b c d e Nil", five+` 5 A b c d e Nil \*`)
	h.add(0, "inbox", "f", "x")
	want("a SELECT inbox", five+" 5 A b c d e f Nil", five+" 5 A b c d e f Nil")
	want("a EXAMINE inbox", five+" 5 A b c d e f Nil", "")
}

// P17.5, T9: who claims what is recent.
func TestRecent(t *testing.T) {
	h := entered(t, 3, someRules())
	h.add(0, "inbox", "", "x", "y")
	recent := func(k int, line string, want int) {
		t.Helper()
		if got := h.say(k, line); !slices.Contains(got, fmt.Sprintf("* %d RECENT", want)) {
			t.Errorf("P17.5: %q: %q", line, got)
		}
	}
	recent(0, "a EXAMINE inbox", 2)
	h.want(0, "a SEARCH RECENT", "* SEARCH 1 2", "a OK SEARCH done")
	recent(1, "a EXAMINE inbox", 2)
	recent(1, "a SELECT inbox", 2)
	recent(2, "a SELECT inbox", 0)
	recent(2, "a EXAMINE inbox", 0)
	h.want(1, "a FETCH 1:2 FLAGS", `* 1 FETCH (FLAGS (\Recent))`, `* 2 FETCH (FLAGS (\Recent))`, "a OK FETCH done")
	h.want(2, "a FETCH 1:2 FLAGS", "* 1 FETCH (FLAGS ())", "* 2 FETCH (FLAGS ())", "a OK FETCH done")
	h.want(0, "a FETCH 1 FLAGS", `* 1 FETCH (FLAGS (\Recent))`, "a OK FETCH done")
	h.add(2, "inbox", "", "z")
	// A connection that only reads sees what is nobody's, and takes it not.
	h.want(0, "a NOOP", "* 3 EXISTS", "* 3 RECENT", "a OK NOOP done")
	h.want(0, "a NOOP", "a OK NOOP done")
	h.want(1, "a NOOP", "* 3 EXISTS", "* 3 RECENT", "a OK NOOP done")
	recent(2, "a SELECT inbox", 0)
	h.add(2, "inbox", "", "w")
	h.want(0, "a NOOP", "* 4 EXISTS", "* 3 RECENT", "a OK NOOP done")
	h.want(1, "a NOOP", "* 4 EXISTS", "* 3 RECENT", "a OK NOOP done")
	// What was there when the vault was opened is nobody's no more; what a mailbox had that was renamed to is.
	h.done(0, "a UNSELECT")
	h.done(1, "a UNSELECT")
	h.done(2, "a UNSELECT", "a RENAME inbox q")
	recent(1, "a SELECT q", 4)
}

// P17.6: LOGOUT with and without a mailbox.
func TestLogout(t *testing.T) {
	for _, lines := range [][]string{nil, {"l LOGIN u p"}, {"l LOGIN u p", "s SELECT inbox"}, {"l LOGIN u p", "s EXAMINE inbox"}} {
		h := build(t, 1, someRules())
		h.done(0, lines...)
		h.vault.Hold(1)
		h.commit(h.store().Add("INBOX", []string{`\Deleted`}, now, "x"))
		frozen := h.store().Freeze()
		h.want(0, "a LOGOUT", "* BYE until next time", "a OK LOGOUT done")
		h.wantSight(0, api.SessionSight{State: api.StateOver})
		h.wantHeld(1, 1)
		if frozen != h.store().Freeze() {
			t.Error("P17.6: LOGOUT has expunged something")
		}
	}
}

// uidsIn are the uids of a mailbox.
func (h *house) uidsIn(validity int) []int {
	mails, _ := h.store().Mails(validity)
	var out []int
	for _, m := range mails {
		out = append(out, m.Uid)
	}
	return out
}

func (h *house) wantUids(validity int, want ...int) {
	h.t.Helper()
	if got := h.uidsIn(validity); !slices.Equal(got, want) {
		h.t.Errorf("the mailbox %d has %v, not %v", validity, got, want)
	}
}

// P17.7: CLOSE takes all messages that are deleted, those too that the view was not told of; UNSELECT none. Nothing is told but the tagged answer.
func TestCloseAndUnselect(t *testing.T) {
	for _, c := range []struct {
		opens, line string
		left        []int
	}{
		{"SELECT", "CLOSE", []int{2}}, {"SELECT", "UNSELECT", []int{2, 3, 4}}, {"EXAMINE", "CLOSE", []int{2, 3, 4}}, {"EXAMINE", "UNSELECT", []int{2, 3, 4}},
	} {
		h := entered(t, 2, someRules())
		h.add(1, "inbox", "", "one", "two")
		h.add(1, "inbox", `\Deleted`, "three")
		h.done(0, "s "+c.opens+" inbox")
		h.done(1, "s SELECT inbox")
		h.add(1, "inbox", `\Deleted \Seen`, "four") // the first connection is not told of it
		h.commit(h.store().Expunge(1, []int{1}))
		h.want(0, "a "+c.line, "a OK "+c.line+" done")
		h.wantSight(0, api.SessionSight{State: api.StateKnown})
		h.wantHeld(1, 1)
		h.wantUids(1, c.left...)
		h.want(0, "a NOOP", "a OK NOOP done")
	}
}

// P17.7: where there is nothing to expunge there is no event.
func TestCloseNothing(t *testing.T) {
	h := twoMails(t)
	last := h.store().Last()
	h.want(0, "a CLOSE", "a OK CLOSE done")
	h.wantHeld(1, 0)
	if h.store().Last() != last {
		t.Error("P17.7: an event of nothing")
	}
}

// P17.7: a CLOSE that is refused leaves the mailbox selected, and tells no news.
func TestCloseRefused(t *testing.T) {
	for want, h := range map[string]*house{isFull: full(t, 2), tooMuch: ended(t, 2, furnish)} {
		h.done(0, "s SELECT inbox")
		h.done(1, "s SELECT inbox")
		sight := h.conns[0].Sight()
		h.conns[0].Hear(api.Event{Kind: api.EventAdd, Box: 1, First: 100})
		h.want(0, "a CLOSE", "a "+want)
		h.wantSight(0, sight)
		h.wantHeld(1, 2)
		h.want(0, "a NOOP", "* 4 EXISTS", "* 4 RECENT", "a OK NOOP done")
	}
}

// P17.8: EXPUNGE takes what is deleted, told or not.
func TestExpunge(t *testing.T) {
	deletedMails := func(t *testing.T) *house {
		h := entered(t, 1, someRules())
		h.add(0, "inbox", "", "one")
		h.add(0, "inbox", `\Deleted`, "two", "three", "four")
		h.add(0, "inbox", `\Seen deleted`, "five")
		h.done(0, "s SELECT inbox")
		h.commit(h.store().Expunge(1, []int{3}))                           // gone, and not told
		h.commit(h.store().Add("INBOX", []string{`\Deleted`}, now, "six")) // not told of
		h.commit(h.store().Add("INBOX", nil, now, "seven"))
		return h
	}
	h := deletedMails(t)
	h.want(0, "a EXPUNGE", "* 2 EXPUNGE", "* 2 EXPUNGE", "* 2 EXPUNGE", "* 3 EXISTS", "* 3 RECENT", "a OK EXPUNGE done")
	h.wantUids(1, 1, 5, 7)
	h.want(0, "a EXPUNGE", "a OK EXPUNGE done")

	for _, c := range []struct {
		set  string
		told []string
		left []int
	}{
		{"2", []string{"* 2 EXPUNGE", "* 2 EXPUNGE", "* 5 EXISTS", "* 5 RECENT"}, []int{1, 4, 5, 6, 7}},
		{"1:*", []string{"* 2 EXPUNGE", "* 2 EXPUNGE", "* 2 EXPUNGE", "* 4 EXISTS", "* 4 RECENT"}, []int{1, 5, 6, 7}},
		{"3", []string{"* 3 EXPUNGE", "* 6 EXISTS", "* 6 RECENT"}, []int{1, 2, 4, 5, 6, 7}},                // it has gone
		{"6", []string{"* 3 EXPUNGE", "* 6 EXISTS", "* 6 RECENT"}, []int{1, 2, 4, 5, 6, 7}},                // it was not told of
		{"1,5,99", []string{"* 3 EXPUNGE", "* 6 EXISTS", "* 6 RECENT"}, []int{1, 2, 4, 5, 6, 7}},           // not deleted, none
		{"*", []string{"* 3 EXPUNGE", "* 6 EXISTS", "* 6 RECENT"}, []int{1, 2, 4, 5, 6, 7}},                // 5
		{"99:4", []string{"* 3 EXPUNGE", "* 3 EXPUNGE", "* 5 EXISTS", "* 5 RECENT"}, []int{1, 2, 5, 6, 7}}, // 4
	} {
		h := deletedMails(t)
		h.want(0, "a UID EXPUNGE "+c.set, append(c.told, "a OK UID EXPUNGE done")...)
		h.wantUids(1, c.left...)
	}
}

// P17.8: where it is open for reading alone.
func TestExpungeReadOnly(t *testing.T) {
	h := twoMails(t)
	h.add(0, "inbox", `\Deleted`, "z")
	h.done(0, "s EXAMINE inbox")
	for _, line := range []string{"EXPUNGE", "UID EXPUNGE 3", "UID EXPUNGE 9"} {
		h.want(0, "a "+line, "a "+isRead)
	}
	h.wantUids(1, 1, 2, 3)
}

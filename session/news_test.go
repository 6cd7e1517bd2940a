package session_test

import (
	"fmt"
	"slices"
	"strings"
	"testing"

	"postbag/api"
)

// busy is a house whose first connection has INBOX selected, with the uids 1 to 4. It was not told as yet that 2 has gone, that the flags of 3 were turned, that 5 has come. There are the mailboxes p and q.
func busy(t *testing.T) *house {
	t.Helper()
	h := entered(t, 2, someRules())
	h.done(1, "a CREATE q", "a CREATE p")
	h.add(1, "inbox", "", "a", "b", "c", "d")
	h.done(0, "s SELECT inbox")
	h.commit(h.store().Expunge(1, []int{2}))
	e, _, code := h.store().Flags(1, []int{3}, 0, []string{`\Draft`, "k"}, -1)
	h.commit(e, code)
	h.commit(h.store().Add("INBOX", nil, now, "e"))
	return h
}

var (
	allNews    = []string{"* 2 EXPUNGE", "* 4 EXISTS", "* 4 RECENT", `* 2 FETCH (UID 3 FLAGS (\Draft k \Recent))`}
	numberNews = []string{"* 5 EXISTS", "* 5 RECENT", `* 3 FETCH (UID 3 FLAGS (\Draft k \Recent))`}
)

// P17.12: the news behind every verb, answered OK or NO, by number and by uid: behind the command's own data, ahead of its tagged answer.
func TestNewsBehindVerbs(t *testing.T) {
	for _, c := range []struct {
		news  []string
		lines []string
	}{
		{allNews, []string{
			"CAPABILITY", "NOOP", "CREATE z", "DELETE p", "RENAME p z", "SUBSCRIBE inbox", "UNSUBSCRIBE inbox", `LIST "" *`, `LSUB "" *`, "STATUS inbox (MESSAGES)",
			"APPEND q {1+}\r\nx", "CHECK", "EXPUNGE", "COPY 1 q", "NAMESPACE", "ENABLE x",
			"UID EXPUNGE 99", "UID SEARCH ALL", "UID FETCH 99 FLAGS", "UID FETCH 1 FLAGS", "UID STORE 99 FLAGS ()", "UID COPY 1 q", "UID MOVE 99 q", "UID SORT (DATE) utf-8 ALL", "UID THREAD REFERENCES utf-8 ALL",
			"CREATE inbox", "DELETE nowhere", "DELETE inbox", "RENAME nowhere z", "RENAME inbox z", "SUBSCRIBE nowhere", `UNSUBSCRIBE "%"`, "STATUS nowhere (MESSAGES)", "APPEND nowhere {1+}\r\nx",
			"COPY 2 q", "MOVE 1:2 q", "COPY 1 nowhere", "MOVE 1 nowhere", "UID SEARCH CHARSET x ALL", "UID SORT (DATE) x ALL", "UID THREAD REFERENCES x ALL",
		}},
		{numberNews, []string{
			"SEARCH ALL", "SEARCH RETURN () ALL", "FETCH 1 UID", "FETCH 3:4 (UID)", "STORE 1 FLAGS.SILENT ()", "SORT (DATE) utf-8 ALL", "THREAD REFERENCES utf-8 ALL",
			"SEARCH CHARSET x ALL", "FETCH 2 UID", "FETCH 1:* BODY[]", "STORE 1:2 FLAGS (x)", "SORT (DATE) x ALL", "THREAD REFERENCES x ALL",
		}},
	} {
		for _, line := range c.lines {
			h := busy(t)
			got := h.say(0, "a "+line)
			at := len(got) - 1 - len(c.news)
			if at < 0 || !slices.Equal(got[at:len(got)-1], c.news) || !strings.HasPrefix(got[len(got)-1], "a ") {
				t.Errorf("P17.12: %q: %q", line, got)
			}
			for _, own := range got[:max(at, 0)] {
				if strings.Contains(own, "EXISTS") || strings.Contains(own, "EXPUNGE") || strings.Contains(own, "UID 3") && !strings.Contains(line, "3:4") {
					t.Errorf("P17.12: %q: %q", line, got)
				}
			}
			// What was not told comes with the next command.
			want := []string{"n OK NOOP done"}
			if len(c.news) == len(numberNews) {
				want = slices.Insert(want, 0, "* 2 EXPUNGE")
			}
			h.want(0, "n NOOP", want...)
		}
	}
}

// P17.12: no news behind CLOSE, UNSELECT, LOGOUT, SELECT, EXAMINE, nor with BAD.
func TestNoNews(t *testing.T) {
	h := busy(t)
	h.want(0, "a CLOSE", "a OK CLOSE done")
	h = busy(t)
	h.want(0, "a UNSELECT", "a OK UNSELECT done")
	h = busy(t)
	h.want(0, "a LOGOUT", "* BYE until next time", "a OK LOGOUT done")
	for _, verb := range []string{"SELECT", "EXAMINE"} {
		for _, name := range []string{"inbox", "q", "nowhere"} {
			h = busy(t)
			got := h.say(0, "a "+verb+" "+name)
			if got[0] != isClosed || slices.Contains(got, "* 2 EXPUNGE") || slices.Contains(got, allNews[3]) {
				t.Errorf("P17.12: %q", got)
			}
		}
	}
	h = busy(t)
	h.want(0, "a FETCH 9 UID", "a "+noSuch)
	h.want(0, "a LOGIN u p", "a "+notNow)
	h.want(0, "a FROB", "a BAD no command")
	h.want(0, "", "* BAD no tag")
	if got := h.take(0, api.Input{Kind: api.InContinue}); !slices.Equal(got, []string{"+ go ahead"}) {
		t.Errorf("P17.12: %q", got)
	}
	h.want(0, "a NOOP", append(slices.Clone(allNews), "a OK NOOP done")...)
}

// P17.12: with CONDSTORE the news tells modseqs.
func TestNewsModseq(t *testing.T) {
	h := busy(t)
	h.want(0, "a ENABLE condstore", "* ENABLED CONDSTORE", allNews[0], allNews[1], allNews[2], `* 2 FETCH (UID 3 FLAGS (\Draft k \Recent) MODSEQ (9))`, "a OK ENABLE done")
	e, _, code := h.store().Flags(1, []int{1, 3}, 0, nil, -1)
	h.commit(e, code)
	e, _, code = h.store().Flags(1, []int{1, 4}, 0, []string{"x"}, -1)
	h.commit(e, code)
	h.want(0, "a NOOP", `* 1 FETCH (UID 1 FLAGS (x \Recent) MODSEQ (12))`, `* 2 FETCH (UID 3 FLAGS (\Recent) MODSEQ (11))`, `* 3 FETCH (UID 4 FLAGS (x \Recent) MODSEQ (12))`, "a OK NOOP done")
	h.want(0, "a NOOP", "a OK NOOP done")
}

// P17.12: what a connection does itself is news to it, but for flags; these its own answers tell, or nothing does.
func TestOwnNews(t *testing.T) {
	h := twoMails(t)
	h.want(0, "a APPEND inbox {1+}\r\nx", "* 3 EXISTS", "* 3 RECENT", "a OK [APPENDUID 1 3] APPEND done")
	h.want(0, "a STORE 1 FLAGS.SILENT (k)", "a OK STORE done")
	h.want(0, "a NOOP", "a OK NOOP done")
	h.want(0, "a FETCH 2 BODY[]", `* 2 FETCH (BODY[] "y" FLAGS (\Seen \Recent))`, "a OK FETCH done")
	h.want(0, "a NOOP", "a OK NOOP done")
	h.want(0, "a COPY 1 inbox", "* 4 EXISTS", "* 4 RECENT", "a OK [COPYUID 1 1 4] COPY done")
	h.want(0, "a MOVE 1 inbox", "* OK [COPYUID 1 1 5] moved", "* 1 EXPUNGE", "* 4 EXISTS", "* 4 RECENT", "a OK MOVE done")
	// Flags that others turned, and this connection behind them, are told as they are then.
	e, _, code := h.store().Flags(1, []int{2, 3}, 0, []string{"other"}, -1)
	h.commit(e, code)
	h.want(0, "a UID STORE 3 +FLAGS.SILENT (own)", `* 1 FETCH (UID 2 FLAGS (other \Recent))`, `* 2 FETCH (UID 3 FLAGS (other own \Recent))`, "a OK UID STORE done")
	h.want(0, "a NOOP", "a OK NOOP done")
}

// P17.12: what comes and goes between two commands is never told of.
func TestPassingNews(t *testing.T) {
	h := twoMails(t)
	h.commit(h.store().Add("INBOX", nil, now, "z"))
	h.commit(h.store().Expunge(1, []int{3}))
	h.want(0, "a NOOP", "a OK NOOP done")
	e, _, code := h.store().Flags(1, []int{1}, 0, []string{"k"}, -1)
	h.commit(e, code)
	h.commit(h.store().Expunge(1, []int{1}))
	h.want(0, "a SEARCH ALL", "* SEARCH 2", "a OK SEARCH done")
	h.want(0, "a NOOP", "* 1 EXPUNGE", "a OK NOOP done")
}

// P17.12: news is of the selected mailbox alone, and not told in the state known.
func TestNewsElsewhere(t *testing.T) {
	h := twoMails(t)
	h.done(1, "a CREATE q")
	h.add(1, "q", "", "x")
	h.want(0, "a NOOP", "a OK NOOP done")
	h.done(0, "a UNSELECT")
	h.add(1, "inbox", "", "x")
	h.want(0, "a NOOP", "a OK NOOP done")
	h.wantHeard(0)
}

// P17.12, T9: in news what is recent goes to whoever tells EXISTS first, unless it only reads.
func TestRecentNews(t *testing.T) {
	h := entered(t, 3, someRules())
	h.done(0, "s SELECT inbox")
	h.done(1, "s SELECT inbox")
	h.done(2, "s EXAMINE inbox")
	h.commit(h.store().Add("INBOX", nil, now, "x"))
	h.want(2, "a NOOP", "* 1 EXISTS", "* 1 RECENT", "a OK NOOP done")
	h.want(1, "a NOOP", "* 1 EXISTS", "* 1 RECENT", "a OK NOOP done")
	h.want(0, "a NOOP", "* 1 EXISTS", "* 0 RECENT", "a OK NOOP done")
	h.commit(h.store().Add("INBOX", nil, now, "y"))
	h.want(0, "a FETCH 1 FLAGS", "* 1 FETCH (FLAGS ())", "* 2 EXISTS", "* 1 RECENT", "a OK FETCH done")
	h.want(1, "a NOOP", "* 2 EXISTS", "* 1 RECENT", "a OK NOOP done")
	h.want(2, "a NOOP", "* 2 EXISTS", "* 1 RECENT", "a OK NOOP done")
	h.want(0, "a FETCH 1:2 FLAGS", "* 1 FETCH (FLAGS ())", `* 2 FETCH (FLAGS (\Recent))`, "a OK FETCH done")
	h.want(1, "a FETCH 1:2 FLAGS", `* 1 FETCH (FLAGS (\Recent))`, "* 2 FETCH (FLAGS ())", "a OK FETCH done")
	h.want(2, "a FETCH 1:2 FLAGS", `* 1 FETCH (FLAGS (\Recent))`, "* 2 FETCH (FLAGS ())", "a OK FETCH done")
	// A command that tells no news takes nothing.
	h.commit(h.store().Add("INBOX", nil, now, "z"))
	h.want(0, "a FETCH 9 UID", "a "+noSuch)
	h.want(1, "a NOOP", "* 3 EXISTS", "* 2 RECENT", "a OK NOOP done")
	// Both count rows that have gone and were not told of.
	h.commit(h.store().Expunge(1, []int{1, 2}))
	h.commit(h.store().Add("INBOX", nil, now, "w"))
	h.want(1, "a SEARCH ALL", "* SEARCH 3", "* 4 EXISTS", "* 3 RECENT", "a OK SEARCH done")
	h.want(1, "a NOOP", "* 1 EXPUNGE", "* 1 EXPUNGE", "a OK NOOP done")
}

// P17.13: IDLE tells all news at once, in the state selected; then what others do, as they do it.
func TestIdle(t *testing.T) {
	h := busy(t)
	h.want(0, "i IDLE", append([]string{"+ idling"}, allNews...)...)
	h.wantHeard(0)
	h.done(1, "s SELECT inbox")
	h.wantHeard(0)
	h.add(1, "inbox", "", "f")
	h.wantHeard(0, "* 5 EXISTS", "* 4 RECENT") // the other one has taken it
	h.done(1, `s UID STORE 5:6 +FLAGS (\Deleted)`)
	h.wantHeard(0, `* 4 FETCH (UID 5 FLAGS (\Deleted \Recent))`, `* 5 FETCH (UID 6 FLAGS (\Deleted))`)
	h.done(1, "s EXPUNGE")
	h.wantHeard(0, "* 4 EXPUNGE", "* 4 EXPUNGE")
	h.add(1, "q", "", "elsewhere")
	h.done(1, "s SUBSCRIBE inbox", "s NOOP", "s FETCH 1 FLAGS")
	h.wantHeard(0)
	h.done(1, "s MOVE 1 inbox")
	h.wantHeard(0, "* 1 EXPUNGE", "* 3 EXISTS", "* 2 RECENT")
	h.want(0, "done", "i OK IDLE done")
	h.add(1, "inbox", "", "g")
	h.wantHeard(0)
	h.want(0, "a NOOP", "* 4 EXISTS", "* 2 RECENT", "a OK NOOP done")
}

// P17.13: in the state known IDLE tells nothing more.
func TestIdleKnown(t *testing.T) {
	h := entered(t, 2, someRules())
	h.want(0, "i IDLE", "+ idling")
	h.wantSight(0, api.SessionSight{State: api.StateKnown, Idle: true})
	h.add(1, "inbox", "", "x")
	h.wantHeard(0)
	h.want(0, "DoNe", "i OK IDLE done")
	h.want(1, "s STATUS inbox (RECENT)", "* STATUS INBOX (RECENT 1)", "s OK STATUS done")
}

// P17.13, T9: in IDLE, too, who only reads takes nothing.
func TestIdleRecent(t *testing.T) {
	for verb, left := range map[string]int{"SELECT": 0, "EXAMINE": 1} {
		h := entered(t, 2, someRules())
		h.done(0, "s "+verb+" inbox", "i IDLE")
		h.add(1, "inbox", "", "x")
		h.wantHeard(0, "* 1 EXISTS", "* 1 RECENT")
		h.want(1, "s STATUS inbox (RECENT)", fmt.Sprintf("* STATUS INBOX (RECENT %d)", left), "s OK STATUS done")
	}
}

// P17.13: CONDSTORE in IDLE.
func TestIdleModseq(t *testing.T) {
	h := twoMails(t)
	h.done(0, "e ENABLE CONDSTORE", "i IDLE")
	h.done(1, "s SELECT inbox", "s STORE 2 FLAGS.SILENT (k)")
	h.wantHeard(0, `* 2 FETCH (UID 2 FLAGS (k \Recent) MODSEQ (4))`)
}

// P0.12: a connection in IDLE is told, command by command, just what NOOP would tell it.
func TestIdleAsNoop(t *testing.T) {
	h := entered(t, 3, someRules())
	h.done(0, "s EXAMINE inbox", "i IDLE")
	h.done(1, "s EXAMINE inbox")
	h.done(2, "a CREATE q", "s SELECT inbox")
	for _, line := range []string{
		"a APPEND inbox (k) {1+}\r\nx", "a APPEND inbox {1+}\r\ny", "a STORE 1:2 FLAGS (z)", "a COPY 1:2 inbox", "a COPY 1 q", "a NOOP", "a FETCH 3 BODY[]", `a STORE 2:3 +FLAGS.SILENT (\Deleted)`, "a EXPUNGE", "a MOVE 1 q",
		"a MOVE 1 inbox", "a STORE 1 FLAGS ()", `a STORE 1 FLAGS (\Deleted)`, "a CLOSE", "a RENAME q r", "a SELECT r", "a COPY 1:* inbox", "a MOVE 1:* inbox", "a STATUS inbox (MESSAGES)",
	} {
		h.done(2, line)
		told := h.say(1, "n NOOP")
		h.wantHeard(0, told[:len(told)-1]...)
		if a, b := h.conns[0].Sight().Uids, h.conns[1].Sight().Uids; !slices.Equal(a, b) {
			t.Errorf("P0.12: %q: %v, %v", line, a, b)
		}
	}
}

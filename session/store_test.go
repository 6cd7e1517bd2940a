package session_test

import (
	"fmt"
	"testing"

	"postbag/api"
)

// P17.11: STORE in its three modes, Silent and not, by number and by uid; all messages of the set are told, turned or not.
func TestStoreModes(t *testing.T) {
	for _, c := range []struct {
		asked    string
		one, two string // the flags of the uids 5 and 7 behind it
	}{
		{`FLAGS (\Draft)`, `\Draft`, `\Draft`},
		{`FLAGS ()`, "", ""},
		{`FLAGS \draft K \SEEN`, `\Draft \Seen k`, `\Draft \Seen k`},
		{`+FLAGS (\Draft)`, `\Draft \Seen k`, `\Draft \Flagged`},
		{`+FLAGS (K)`, `\Seen k`, `\Flagged k`},
		{`+FLAGS ()`, `\Seen k`, `\Flagged`},
		{`-FLAGS (K \seen)`, "", `\Flagged`},
		{`-FLAGS (x)`, `\Seen k`, `\Flagged`},
		{`+FLAGS (b A)`, `\Seen A b k`, `\Flagged A b`},
	} {
		setup := func() *house {
			rules := someRules()
			rules.Uid = 5
			h := entered(t, 1, rules)
			h.add(0, "inbox", `\Seen k`, "x")
			h.add(0, "inbox", "", "gone")
			h.add(0, "inbox", `\Flagged`, "y")
			h.done(0, "s SELECT inbox", `s STORE 2 +FLAGS (\Deleted)`, "s EXPUNGE", "s SELECT inbox")
			return h
		}
		h := setup()
		h.want(0, "a STORE 1:2 "+c.asked, "* 1 FETCH (FLAGS ("+c.one+"))", "* 2 FETCH (FLAGS ("+c.two+"))", "a OK STORE done")
		h = setup()
		h.want(0, "a UID STORE 1:9 "+c.asked, "* 1 FETCH (UID 5 FLAGS ("+c.one+"))", "* 2 FETCH (UID 7 FLAGS ("+c.two+"))", "a OK UID STORE done")
		for _, uid := range []string{"", "UID "} {
			h = setup()
			h.want(0, "a "+uid+"STORE 1:* "+silent(c.asked), "a OK "+uid+"STORE done")
			h.want(0, "f FETCH 1:2 FLAGS", "* 1 FETCH (FLAGS ("+c.one+"))", "* 2 FETCH (FLAGS ("+c.two+"))", "f OK FETCH done")
			h.want(0, "n NOOP", "n OK NOOP done")
		}
	}
}

// silent is the arguments of a STORE with .SILENT behind the name.
func silent(asked string) string {
	for i := range len(asked) {
		if asked[i] == ' ' {
			return asked[:i] + ".SILENT" + asked[i:]
		}
	}
	return asked
}

// P17.11: what is told has \Recent behind the flags, and with CONDSTORE the modseqs as they are behind the event.
func TestStoreTells(t *testing.T) {
	h := twoMails(t)
	h.want(0, "a STORE 2 FLAGS (b)", `* 2 FETCH (FLAGS (b \Recent))`, "a OK STORE done")
	h.done(0, "e ENABLE CONDSTORE")
	h.want(0, "a STORE 1:2 +FLAGS (b)", `* 1 FETCH (FLAGS (b \Recent) MODSEQ (5))`, `* 2 FETCH (FLAGS (b \Recent) MODSEQ (4))`, "a OK STORE done")
	h.want(0, "a UID STORE 2 FLAGS ()", `* 2 FETCH (UID 2 FLAGS (\Recent) MODSEQ (6))`, "a OK UID STORE done")
	h.want(0, "a STORE 1:2 FLAGS.SILENT (c)", "a OK STORE done")
	last := h.store().Last()
	h.want(0, "a STORE 1:2 FLAGS (C)", `* 1 FETCH (FLAGS (c \Recent) MODSEQ (7))`, `* 2 FETCH (FLAGS (c \Recent) MODSEQ (7))`, "a OK STORE done")
	h.want(0, "a UID STORE 8:* FLAGS (x)", `* 2 FETCH (UID 2 FLAGS (x \Recent) MODSEQ (8))`, "a OK UID STORE done")
	if h.store().Last() != last+1 {
		t.Errorf("P17.11: %d events", h.store().Last()-last)
	}
}

// P17.11: UNCHANGEDSINCE leaves out none, some, all; the code names them as the command does.
func TestUnchanged(t *testing.T) {
	setup := func() *house {
		rules := someRules()
		rules.Uid = 11
		h := entered(t, 1, rules)
		h.add(0, "inbox", "", "a", "b", "c", "d") // modseqs 2 to 5
		h.done(0, "s SELECT inbox", "s SELECT inbox", "s STORE 1 FLAGS (k)")
		return h // 6 3 4 5
	}
	h := setup()
	h.want(0, "a STORE 1:4 (UNCHANGEDSINCE 6) +FLAGS (x)", "* 1 FETCH (FLAGS (k x) MODSEQ (7))", "* 2 FETCH (FLAGS (x) MODSEQ (7))", "* 3 FETCH (FLAGS (x) MODSEQ (7))", "* 4 FETCH (FLAGS (x) MODSEQ (7))", "a OK STORE done")
	h = setup()
	h.want(0, "a STORE 1:4 (UNCHANGEDSINCE 4) +FLAGS (x)", "* 2 FETCH (FLAGS (x) MODSEQ (7))", "* 3 FETCH (FLAGS (x) MODSEQ (7))", "a OK [MODIFIED 1,4] STORE done")
	h = setup()
	h.want(0, "a UID STORE 1:* (UNCHANGEDSINCE 4) +FLAGS (x)", "* 2 FETCH (UID 12 FLAGS (x) MODSEQ (7))", "* 3 FETCH (UID 13 FLAGS (x) MODSEQ (7))", "a OK [MODIFIED 11,14] UID STORE done")
	h = setup()
	h.want(0, "a STORE 1:4 (UNCHANGEDSINCE 3) +FLAGS.SILENT (x)", "a OK [MODIFIED 1,3:4] STORE done")
	h.want(0, "a STORE 1:4 (UNCHANGEDSINCE 0) +FLAGS (x)", "a OK [MODIFIED 1:4] STORE done")
	h.want(0, "a UID STORE 11,13 (UNCHANGEDSINCE 1) FLAGS (y)", "a OK [MODIFIED 11,13] UID STORE done")
	h.want(0, "a UID STORE 99 (UNCHANGEDSINCE 0) FLAGS (y)", "a OK UID STORE done")
	h.want(0, "a UID STORE 13 (UNCHANGEDSINCE 4294967295) FLAGS (y)", "* 3 FETCH (UID 13 FLAGS (y) MODSEQ (8))", "a OK UID STORE done")
	// What is not turned, and not left out, is told.
	h.want(0, "a STORE 3 (UNCHANGEDSINCE 8) FLAGS (y)", "* 3 FETCH (FLAGS (y) MODSEQ (8))", "a OK STORE done")
}

// P17.11: a message that has gone: by number refused, by uid not there.
func TestStoreGone(t *testing.T) {
	h := goneHouse(t)
	h.want(0, "a STORE 1 FLAGS (x)", "* 3 EXISTS", "* 3 RECENT", "a "+isGone)
	h.want(0, "a STORE 1:2 (UNCHANGEDSINCE 0) FLAGS (x)", "a "+isGone)
	h.want(0, "a STORE 2:* FLAGS (x)", `* 2 FETCH (FLAGS (x \Recent) MODSEQ (6))`, `* 3 FETCH (FLAGS (x \Recent) MODSEQ (6))`, "a OK STORE done")
	h.want(0, "a UID STORE 1:2 FLAGS (y)", `* 2 FETCH (UID 2 FLAGS (y \Recent) MODSEQ (7))`, "* 1 EXPUNGE", "a OK UID STORE done")
}

// P17.11: COPY and MOVE, within the mailbox, to another one, to none, of nothing; codes and their sets.
func TestCarry(t *testing.T) {
	setup := func() *house {
		rules := someRules()
		rules.Uid = 3
		h := entered(t, 1, rules)
		h.done(0, "a CREATE q", "a CREATE &AOk-/x")
		h.add(0, "q", "", "one")
		h.add(0, "inbox", `\Seen k`, "a")
		h.add(0, "inbox", "", "b", "c", "d") // 3 to 6
		h.done(0, "s SELECT inbox")
		return h
	}
	for _, c := range []struct {
		line      string
		told      []string
		here, far []int // INBOX and q
	}{
		{"COPY 1,3:4 q", []string{"a OK [COPYUID 2 3,5:6 4:6] COPY done"}, []int{3, 4, 5, 6}, []int{3, 4, 5, 6}},
		{"UID COPY 4,6 q", []string{"a OK [COPYUID 2 4,6 4:5] UID COPY done"}, []int{3, 4, 5, 6}, []int{3, 4, 5}},
		{"COPY 2 Inbox", []string{"* 5 EXISTS", "* 5 RECENT", "a OK [COPYUID 1 4 7] COPY done"}, []int{3, 4, 5, 6, 7}, []int{3}},
		{"MOVE 1:2,4 q", []string{"* OK [COPYUID 2 3:4,6 4:6] moved", "* 1 EXPUNGE", "* 1 EXPUNGE", "* 2 EXPUNGE", "a OK MOVE done"}, []int{5}, []int{3, 4, 5, 6}},
		{"UID MOVE 6:* q", []string{"* OK [COPYUID 2 6 4] moved", "* 4 EXPUNGE", "a OK UID MOVE done"}, []int{3, 4, 5}, []int{3, 4}},
		{"MOVE 3,2 inbox", []string{"* OK [COPYUID 1 4:5 7:8] moved", "* 2 EXPUNGE", "* 2 EXPUNGE", "* 4 EXISTS", "* 4 RECENT", "a OK MOVE done"}, []int{3, 6, 7, 8}, []int{3}},
		{"UID MOVE 1:* INBOX", []string{"* OK [COPYUID 1 3:6 7:10] moved", "* 1 EXPUNGE", "* 1 EXPUNGE", "* 1 EXPUNGE", "* 1 EXPUNGE", "* 4 EXISTS", "* 4 RECENT", "a OK UID MOVE done"}, []int{7, 8, 9, 10}, []int{3}},
		{"UID COPY 7:99 &AOk-/x", []string{"a OK UID COPY done"}, []int{3, 4, 5, 6}, []int{3}},
		{"UID COPY 7,99 &AOk-/x", []string{"a OK UID COPY done"}, []int{3, 4, 5, 6}, []int{3}},
		{"UID MOVE 1:2 q", []string{"a OK UID MOVE done"}, []int{3, 4, 5, 6}, []int{3}},
		{"COPY 1 nowhere", []string{"a " + tryIt}, []int{3, 4, 5, 6}, []int{3}},
		{"UID MOVE 1 nowhere", []string{"a " + tryIt}, []int{3, 4, 5, 6}, []int{3}},
		{"MOVE 1 &AOk-/y", []string{"a " + tryIt}, []int{3, 4, 5, 6}, []int{3}},
		{"COPY 1 q/", []string{"a " + cannot}, []int{3, 4, 5, 6}, []int{3}},
	} {
		h := setup()
		h.want(0, "a "+c.line, c.told...)
		h.wantUids(1, c.here...)
		h.wantUids(2, c.far...)
	}
	h := setup()
	h.want(0, "a COPY 1 &AOk-/x", "a OK [COPYUID 4 3 3] COPY done")
	h.done(0, "s SELECT &AOk-/x")
	h.want(0, "f FETCH 1 (UID FLAGS BODY.PEEK[])", `* 1 FETCH (UID 3 FLAGS (\Seen k \Recent) BODY[] "a")`, "f OK FETCH done")
}

// P17.11: COPY may be given where it is open for reading alone, MOVE not.
func TestCarryReadOnly(t *testing.T) {
	h := twoMails(t)
	h.done(0, "a CREATE q", "s EXAMINE inbox")
	h.want(0, "a COPY 1 q", "a OK [COPYUID 2 1 1] COPY done")
	for _, line := range []string{"MOVE 1 q", "UID MOVE 1 q", "UID MOVE 99 q", "UID STORE 99 FLAGS ()", "STORE 1 FLAGS ()"} {
		h.want(0, "a "+line, "a "+isRead)
	}
}

// P17.11: of messages that have gone.
func TestCarryGone(t *testing.T) {
	for _, verb := range []string{"COPY", "MOVE"} {
		h := goneHouse(t)
		h.done(1, "a CREATE q")
		h.want(0, "a "+verb+" 1:2 q", "* 1 EXPUNGE", "* 2 EXISTS", "* 2 RECENT", "a "+isGone)
		h = goneHouse(t)
		h.done(1, "a CREATE q")
		h.want(0, "a UID "+verb+" 1 q", "* 1 EXPUNGE", "* 2 EXISTS", "* 2 RECENT", "a OK UID "+verb+" done")
		h.wantUids(2)
	}
}

// P17.11, P0.11: the codes name just the uids under which the messages are then fetched.
func TestUidPlus(t *testing.T) {
	rules := someRules()
	rules.Uid = end - 20
	h := entered(t, 1, rules)
	h.done(0, "a CREATE q")
	for i := range 5 {
		h.want(0, "a APPEND q "+literal(fmt.Sprint(i)), fmt.Sprintf("a OK [APPENDUID 2 %d] APPEND done", rules.Uid+i))
	}
	h.done(0, "s SELECT q")
	h.want(0, "a COPY 2,4:5 inbox", fmt.Sprintf("a OK [COPYUID 1 %d,%d:%d %d:%d] COPY done", rules.Uid+1, rules.Uid+3, rules.Uid+4, rules.Uid, rules.Uid+2))
	h.done(0, "s EXAMINE inbox")
	for i, body := range []string{"1", "3", "4"} {
		h.want(0, fmt.Sprintf("f UID FETCH %d BODY[]", rules.Uid+i), fmt.Sprintf(`* %d FETCH (UID %d BODY[] "%s")`, i+1, rules.Uid+i, body), "f OK UID FETCH done")
	}
	// The last uid that there can be.
	h.done(0, "s SELECT q")
	for i := 5; i <= 20; i++ {
		h.add(0, "q", "", "x")
	}
	h.want(0, "a APPEND q {1+}\r\nx", "a "+tooMuch)
	h.want(0, "a COPY 1 q", "a "+tooMuch)
	h.want(0, "a MOVE 1 q", "a "+tooMuch)
	h.want(0, "a STATUS q (UIDNEXT)", fmt.Sprintf("* STATUS q (UIDNEXT %d)", api.MaxNumber), "a OK STATUS done")
}

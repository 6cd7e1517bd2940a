package session_test

import (
	"testing"

	"postbag/api"
)

// The chapter's table of examples.
func TestExamples(t *testing.T) {
	h := build(t, 1, someRules())
	h.want(0, "a SELECT inbox", "a "+notNow)
	h.want(0, "b LOGIN u x", "b NO [AUTHENTICATIONFAILED] wrong user or password")
	h.want(0, "c LOGIN u p", "c OK LOGIN done")
	h.want(0, "d LOGIN u p", "d "+notNow)
	h.want(0, "e CREATE x/y/", "e OK CREATE done")
	h.want(0, "f CREATE x", "f "+isThere)
	h.want(0, "g DELETE x", "g "+hasKids)
	h.want(0, "h CREATE a//b", "h "+cannot)
	h.want(0, "i APPEND inbox {5+}\r\nhello", "i OK [APPENDUID 1 1] APPEND done")
	h.want(0, "j APPEND q {1+}\r\nx", "j "+tryIt)
	h.want(0, "k SELECT inbox", append(selects(1, 1, 2, 3, 1), "k OK [READ-WRITE] SELECT done")...)
	h.want(0, "l FETCH 1 (UID BODY[])", `* 1 FETCH (UID 1 BODY[] "hello" FLAGS (\Seen \Recent))`, "l OK FETCH done")
	h.want(0, "m FETCH 2 UID", "m "+noSuch)
	h.want(0, "n UID FETCH 7 FLAGS", "n OK UID FETCH done")
	h.want(0, "o FETCH 1 BODY[3]", "* 1 FETCH (BODY[3] NIL)", "o OK FETCH done")
	h.want(0, `p STORE 1 +FLAGS (\Deleted)`, `* 1 FETCH (FLAGS (\Deleted \Seen \Recent))`, "p OK STORE done")
	h.want(0, "q SEARCH DELETED", "* SEARCH 1", "q OK SEARCH done")
	h.want(0, "r COPY 1 x", "r OK [COPYUID 2 1 1] COPY done")
	h.want(0, "s EXPUNGE", "* 1 EXPUNGE", "s OK EXPUNGE done")
	h.want(0, "t SEARCH RETURN (COUNT ALL) ALL", `* ESEARCH (TAG "t") COUNT 0`, "t OK SEARCH done")
	h.want(0, "u SELECT q", "* OK [CLOSED] the mailbox is closed", "u "+isNone)
	h.want(0, "w CHECK", "w "+notNow)
	h.want(0, `x LIST "" *`, `* LIST (\HasNoChildren) "/" INBOX`, `* LIST (\HasChildren) "/" x`, `* LIST (\HasNoChildren) "/" x/y`, "x OK LIST done")
	h.want(0, "y IDLE", "+ idling")
	h.want(0, "done", "y OK IDLE done")
	h.want(0, "z LOGOUT", "* BYE until next time", "z OK LOGOUT done")
}

// The third to the seventh of the ten examples of the whole, as far as sessions show them.
func TestTwoConnections(t *testing.T) {
	h := entered(t, 2, someRules())
	h.add(0, "inbox", "", "x", "y")
	h.done(0, "a4 SELECT inbox")
	h.done(1, "b2 SELECT inbox")
	h.want(1, `b3 STORE 1 +FLAGS (\Deleted)`, `* 1 FETCH (FLAGS (\Deleted))`, "b3 OK STORE done")
	h.want(1, "b4 EXPUNGE", "* 1 EXPUNGE", "b4 OK EXPUNGE done")
	h.want(0, "a5 FETCH 1 UID", "a5 "+isGone)
	h.want(0, "a6 FETCH 2 UID", "* 2 FETCH (UID 2)", "a6 OK FETCH done")
	h.want(0, "a7 NOOP", "* 1 EXPUNGE", "a7 OK NOOP done")
}

func TestCopyAndMove(t *testing.T) {
	h := entered(t, 1, someRules())
	h.done(0, "a2 CREATE q")
	h.add(0, "inbox", "", "x", "y")
	h.done(0, "a5 SELECT inbox")
	h.want(0, "a6 COPY 1:2 q", "a6 OK [COPYUID 2 1:2 1:2] COPY done")
	h.want(0, "a7 UID MOVE 1 q", "* OK [COPYUID 2 1 3] moved", "* 1 EXPUNGE", "a7 OK UID MOVE done")
	h.want(0, "a8 STATUS q (MESSAGES UIDNEXT)", "* STATUS q (MESSAGES 3 UIDNEXT 4)", "a8 OK STATUS done")
	h.want(0, "a9 COPY 1 z", "a9 "+tryIt)
}

func TestFinding(t *testing.T) {
	h := entered(t, 1, someRules())
	h.add(0, "inbox", "", "Subject: b\r\nMessage-ID: <1@x>\r\n\r\none", "Subject: Re: b\r\nReferences: <1@x>\r\nMessage-ID: <2@x>\r\n\r\n")
	h.add(0, "inbox", `\Seen`, "Subject: a\r\n\r\nz")
	h.done(0, "a5 SELECT inbox")
	h.want(0, "a6 SEARCH UNSEEN SUBJECT b", "* SEARCH 1 2", "a6 OK SEARCH done")
	h.want(0, "a7 UID SORT (SUBJECT) US-ASCII ALL", "* SORT 3 1 2", "a7 OK UID SORT done")
	h.want(0, "a8 THREAD REFERENCES UTF-8 ALL", "* THREAD (1 2)(3)", "a8 OK THREAD done")
	h.want(0, "a9 SEARCH RETURN (MIN COUNT) NOT SEEN", `* ESEARCH (TAG "a9") MIN 1 COUNT 2`, "a9 OK SEARCH done")
}

func TestChangedSince(t *testing.T) {
	h := entered(t, 1, someRules())
	h.add(0, "inbox", "", "x", "y")
	h.done(0, "a4 SELECT inbox (CONDSTORE)")
	h.want(0, "a5 STORE 2 (UNCHANGEDSINCE 4) +FLAGS (k)", `* 2 FETCH (FLAGS (k \Recent) MODSEQ (4))`, "a5 OK STORE done")
	h.want(0, "a6 STORE 1:2 (UNCHANGEDSINCE 3) +FLAGS.SILENT (k)", "a6 OK [MODIFIED 2] STORE done")
	h.want(0, "a7 UID FETCH 1:* (FLAGS) (CHANGEDSINCE 4)", `* 1 FETCH (UID 1 FLAGS (k \Recent) MODSEQ (5))`, "a7 OK UID FETCH done")
}

func TestIdling(t *testing.T) {
	h := entered(t, 2, someRules())
	h.done(0, "a2 SELECT inbox")
	h.want(0, "a3 IDLE", "+ idling")
	h.want(1, "b2 APPEND inbox {1+}\r\nx", "b2 OK [APPENDUID 1 1] APPEND done")
	h.wantHeard(0, "* 1 EXISTS", "* 1 RECENT")
	h.want(0, "done", "a3 OK IDLE done")
	h.want(0, "a4 IDLE", "+ idling")
	h.want(0, "a5 NOOP", "a4 BAD IDLE is over")
	h.wantSight(0, api.SessionSight{State: api.StateSelected, Box: 1, Uids: []int{1}})
}

// The tenth: what is refused.
func TestRefused(t *testing.T) {
	rules := someRules()
	rules.Quota = 8300
	h := build(t, 1, rules)
	h.want(0, "a1 SELECT inbox", "a1 "+notNow)
	h.want(0, "a2 LOGIN u q", "a2 NO [AUTHENTICATIONFAILED] wrong user or password")
	h.want(0, "a3 LOGIN u p", "a3 OK LOGIN done")
	h.want(0, "a4 FROB", "a4 BAD no command")
	h.want(0, "a5 SELECT {99999}", "a5 BAD no literal")
	h.want(0, "nonsense", "nonsense BAD no command")
	h.want(0, "a6 APPEND inbox {120+}\r\n"+string(make120('y')), "a6 "+isFull)
	h.want(0, "a7 SELECT inbox", append(selects(0, 0, 1, 1), "a7 OK [READ-WRITE] SELECT done")...)
	h.want(0, "a8 FETCH 1 UID", "a8 "+noSuch)
	h.want(0, "a9 APPEND q {3}\r\nxyz", "+ go ahead", "a9 "+tryIt)
}

func make120(b byte) []byte {
	out := make([]byte, 120)
	for i := range out {
		out[i] = b
	}
	return out
}

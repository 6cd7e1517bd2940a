package session_test

import (
	"fmt"
	"strings"
	"testing"

	"postbag/api"
	"postbag/vault"
)

// literal is a text as a client may always send it.
func literal(s string) string { return fmt.Sprintf("{%d+}\r\n%s", len(s), s) }

// furnish makes q, q/r and p, and three messages in INBOX, one of which is deleted; INBOX is subscribed to.
func furnish(h *house) {
	h.done(0, "a CREATE q/r", "a CREATE p", "a SUBSCRIBE inbox")
	h.add(0, "inbox", "", strings.Repeat("b", 9000), "y")
	h.add(0, "inbox", `\Deleted`, "z")
}

// ended is a house where the last event has the greatest number: no further one can be.
func ended(t *testing.T, conns int, setup func(h *house)) *house {
	t.Helper()
	h := entered(t, conns, someRules())
	setup(h)
	rules := someRules()
	rules.Number = end - h.store().Last() + 2
	h = entered(t, conns, rules)
	setup(h)
	if h.store().Last() != end {
		t.Fatalf("the last event is %d", h.store().Last())
	}
	return h
}

// full is a house whose disk has no byte left.
func full(t *testing.T, conns int) *house {
	t.Helper()
	rules := someRules()
	rules.Quota = 20000
	h := entered(t, conns, rules)
	furnish(h)
	h.fill(1, 2)
	return h
}

// wanting are commands that want an event in a furnished house where INBOX is selected by this connection alone.
var wanting = []string{
	"CREATE z", "CREATE q/s/t", "DELETE q/r", "DELETE p", "RENAME q z", "RENAME p q/p", "SUBSCRIBE q", "UNSUBSCRIBE inbox", "APPEND q {1+}\r\nx",
	`STORE 3 FLAGS (\Draft)`, `UID STORE 3 +FLAGS.SILENT (\Draft)`, "EXPUNGE", "UID EXPUNGE 1:*", "FETCH 3 BODY[]", "UID FETCH 3 RFC822.TEXT", "COPY 3 q", "UID MOVE 3 q", "MOVE 1:3 inbox", "CLOSE",
}

// idle commands want none there, though some could.
var wantingNone = []string{
	"SUBSCRIBE INBOX", "UNSUBSCRIBE q", `STORE 3 +FLAGS (\deleted)`, "UID STORE 9 FLAGS (k)", "UID EXPUNGE 1", "UID COPY 9 q", "UID MOVE 9 q", "FETCH 1:3 BODY.PEEK[TEXT]<0.1>", "FETCH 1:3 (FLAGS RFC822.SIZE)", "STATUS inbox (MESSAGES)", `LIST "" *`, "NOOP", "CHECK", "UNSELECT", "EXAMINE q", "LOGOUT",
}

// P17.3: a commit that is refused for want of room, of every verb; nothing is told but that, and nothing has changed.
func TestNoRoom(t *testing.T) {
	for _, line := range wanting {
		h := full(t, 2)
		h.done(0, "s SELECT inbox")
		sight := h.conns[0].Sight()
		h.want(0, "a "+line, "a "+isFull)
		h.wantSight(0, sight)
		h.wantHeld(1, 1)
		h.want(0, "a NOOP", "a OK NOOP done")
	}
	for _, line := range wantingNone {
		h := full(t, 1)
		h.done(0, "s SELECT inbox", "a "+line)
	}
	h := full(t, 1)
	h.want(0, "a RENAME inbox z", "a "+isFull)
}

// P17.3: a counter at its end, of every verb.
func TestAtTheEnd(t *testing.T) {
	for _, line := range wanting {
		h := ended(t, 1, furnish)
		h.done(0, "s SELECT inbox")
		sight := h.conns[0].Sight()
		h.want(0, "a "+line, "a "+tooMuch)
		h.wantSight(0, sight)
		h.wantHeld(1, 1)
	}
	for _, line := range wantingNone {
		h := ended(t, 1, furnish)
		h.done(0, "s SELECT inbox", "a "+line)
	}
	h := ended(t, 1, furnish)
	h.want(0, "a RENAME inbox z", "a "+tooMuch)
}

// P17.3: a commit that meets a stop, at each of its operations, of every verb.
func TestStop(t *testing.T) {
	for _, line := range wanting {
		for operation := 1; operation <= 6; operation++ {
			rules := someRules()
			if operation > 2 {
				rules.Every = 1 // a checkpoint behind each event
			}
			h := entered(t, 2, rules)
			furnish(h)
			h.done(0, "s SELECT inbox")
			last := h.store().Last()
			h.disk.Plan([]api.Stop{{At: operation}})
			h.stops(0, "a "+line)
			h.disk.Start()
			v, err := vault.Open(h.disk, rules)
			if err != nil {
				t.Fatal(err)
			}
			if behind := v.Store().Last() - last; behind != map[bool]int{false: 0, true: 1}[operation > 2] {
				t.Errorf("%q: a stop at %d: %d events", line, operation, behind)
			}
			h.conns[0].Hear(api.Event{Kind: api.EventAdd, Box: 1, First: 9})
			h.conns[0].Close()
			h.wantSight(0, api.SessionSight{State: api.StateOver})
		}
	}
	h := entered(t, 1, someRules())
	furnish(h)
	h.disk.Plan([]api.Stop{{At: 2}})
	h.stops(0, "a RENAME inbox z")
}

// P17.3: another connection's vault is dead, too.
func TestStopElsewhere(t *testing.T) {
	h := entered(t, 2, someRules())
	furnish(h)
	h.done(1, "s SELECT inbox")
	h.disk.Plan([]api.Stop{{At: 1}})
	h.stops(0, "a CREATE z")
	h.stops(1, "a EXPUNGE")
}

// P17.3: each pair of rows of T6 that may apply at once: the first one is told. Here nothing is selected but what is said.
func TestOrderOfRefusals(t *testing.T) {
	many := func(h *house) {
		furnish(h)
		for i := range api.MaxBoxes - 4 {
			h.done(0, fmt.Sprintf("a CREATE b%d", i))
		}
	}
	crowded := func(h *house) {
		h.done(0, "a CREATE q")
		h.add(0, "inbox", "", "x", "y")
		for range api.MaxMails {
			h.add(0, "q", "", "x")
		}
		h.add(0, "inbox", "a b c d e f g h", "z")
	}
	ends := func(setup func(h *house)) func(t *testing.T) *house {
		return func(t *testing.T) *house { return ended(t, 2, setup) }
	}
	has := func(setup func(h *house)) func(t *testing.T) *house {
		return func(t *testing.T) *house {
			h := entered(t, 2, someRules())
			setup(h)
			return h
		}
	}
	noRoom := func(t *testing.T) *house { return full(t, 2) }
	gone := func(name string, uids ...int) func(h *house) {
		return func(h *house) {
			box, _ := h.store().Box(name)
			h.commit(h.store().Expunge(box.Validity, uids))
		}
	}
	nothing := func(h *house) {}
	for _, c := range []struct {
		what   string
		house  func(t *testing.T) *house
		first  []string // of the connection 0
		second []string // of the connection 1
		then   func(h *house)
		line   string
		want   string
	}{
		{"READ-ONLY, EXPUNGEISSUED", has(furnish), []string{"s EXAMINE inbox"}, nil, gone("INBOX", 1), "STORE 1 FLAGS (x)", isRead},
		{"READ-ONLY, EXPUNGEISSUED", has(furnish), []string{"s EXAMINE inbox"}, nil, gone("INBOX", 1), "MOVE 1 q", isRead},
		{"READ-ONLY, CANNOT", has(furnish), []string{"s EXAMINE inbox"}, nil, nothing, `MOVE 1 "%"`, isRead},
		{"READ-ONLY, TRYCREATE", has(furnish), []string{"s EXAMINE inbox"}, nil, nothing, "UID MOVE 9 nowhere", isRead},
		{"READ-ONLY, LIMIT", ends(furnish), []string{"s EXAMINE inbox"}, nil, nothing, "STORE 1 FLAGS (x)", isRead},
		{"READ-ONLY, LIMIT", ends(furnish), []string{"s EXAMINE inbox"}, nil, nothing, "EXPUNGE", isRead},
		{"READ-ONLY, LIMIT", ends(furnish), []string{"s EXAMINE inbox"}, nil, nothing, "MOVE 1 q", isRead},
		{"READ-ONLY, OVERQUOTA", noRoom, []string{"s EXAMINE inbox"}, nil, nothing, "STORE 1 FLAGS (x)", isRead},
		{"READ-ONLY, OVERQUOTA", noRoom, []string{"s EXAMINE inbox"}, nil, nothing, "UID EXPUNGE 1:*", isRead},
		{"READ-ONLY, OVERQUOTA", noRoom, []string{"s EXAMINE inbox"}, nil, nothing, "MOVE 1 q", isRead},
		{"READ-ONLY, nothing to do", has(furnish), []string{"s EXAMINE inbox"}, nil, nothing, "UID STORE 9 FLAGS ()", isRead},
		{"READ-ONLY, nothing to do", has(furnish), []string{"s EXAMINE inbox"}, nil, nothing, "UID EXPUNGE 9", isRead},
		{"EXPUNGEISSUED, CANNOT", has(furnish), []string{"s SELECT inbox"}, nil, gone("INBOX", 1), `COPY 1 "%"`, isGone},
		{"EXPUNGEISSUED, CANNOT", has(furnish), []string{"s SELECT inbox"}, nil, gone("INBOX", 1), `MOVE 1:* "%"`, isGone},
		{"EXPUNGEISSUED, TRYCREATE", has(furnish), []string{"s SELECT inbox"}, nil, gone("INBOX", 3), "COPY * nowhere", isGone},
		{"EXPUNGEISSUED, TRYCREATE", has(furnish), []string{"s SELECT inbox"}, nil, gone("INBOX", 3), "MOVE 2:3 nowhere", isGone},
		{"EXPUNGEISSUED, LIMIT", has(crowded), []string{"s SELECT inbox"}, nil, gone("INBOX", 1), "COPY 1:2 q", isGone},
		{"EXPUNGEISSUED, LIMIT", has(crowded), []string{"s SELECT inbox"}, nil, gone("INBOX", 1), "STORE 1:2 +FLAGS (i)", isGone},
		{"EXPUNGEISSUED, LIMIT", ends(func(h *house) { furnish(h); h.done(0, "s SELECT inbox"); gone("INBOX", 1)(h) }), nil, nil, nothing, "FETCH 1:2 BODY[]", isGone},
		{"EXPUNGEISSUED, MaxOutput", has(furnish), []string{"s SELECT inbox"}, nil, gone("INBOX", 2), "FETCH 1:2 " + twelve(9000), isGone},
		{"CANNOT, NONEXISTENT", has(furnish), nil, nil, nothing, "RENAME nowhere inbox", cannot},
		{"CANNOT, NONEXISTENT", has(furnish), nil, nil, nothing, `RENAME "%" nowhere/`, cannot},
		{"CANNOT, NONEXISTENT", has(furnish), nil, nil, nothing, "RENAME nowhere nowhere/x", cannot},
		{"CANNOT, ALREADYEXISTS", has(furnish), nil, nil, nothing, "RENAME q q/r", cannot},
		{"CANNOT, ALREADYEXISTS", has(furnish), nil, nil, nothing, "RENAME inbox INBOX", cannot},
		{"CANNOT, ALREADYEXISTS", has(furnish), nil, nil, nothing, "CREATE Inbox", cannot},
		{"CANNOT, HASCHILDREN", has(func(h *house) { furnish(h); h.done(0, "a CREATE inbox/x") }), nil, nil, nothing, "DELETE inbox", cannot},
		{"CANNOT, INUSE", has(furnish), []string{"s SELECT q"}, nil, nothing, "RENAME q q/x", cannot},
		{"CANNOT, INUSE", has(furnish), []string{"s SELECT inbox"}, nil, nothing, "DELETE inbox", cannot},
		{"CANNOT, INUSE", has(furnish), []string{"s SELECT inbox"}, nil, nothing, "RENAME inbox inbox/x", cannot},
		{"CANNOT, LIMIT", has(many), nil, nil, nothing, "CREATE a//b", cannot},
		{"CANNOT, LIMIT", ends(furnish), nil, nil, nothing, `APPEND "a*" {1+}` + "\r\nx", cannot},
		{"CANNOT, LIMIT", ends(furnish), []string{"s SELECT inbox"}, nil, nothing, `COPY 1 "a*"`, cannot},
		{"CANNOT, LIMIT", ends(furnish), nil, nil, nothing, "DELETE inbox", cannot},
		{"CANNOT, OVERQUOTA", noRoom, nil, nil, nothing, "CREATE a//b", cannot},
		{"CANNOT, OVERQUOTA", noRoom, nil, nil, nothing, `APPEND "a*" {1+}` + "\r\nx", cannot},
		{"NONEXISTENT, ALREADYEXISTS", has(furnish), nil, nil, nothing, "RENAME nowhere q", isNone},
		{"NONEXISTENT, LIMIT", ends(furnish), nil, nil, nothing, "RENAME nowhere there", isNone},
		{"NONEXISTENT, LIMIT", ends(furnish), nil, nil, nothing, "DELETE nowhere", isNone},
		{"NONEXISTENT, LIMIT", ends(furnish), nil, nil, nothing, "SUBSCRIBE nowhere", isNone},
		{"NONEXISTENT, LIMIT", ends(furnish), nil, nil, nothing, `UNSUBSCRIBE "%"`, isNone},
		{"TRYCREATE, LIMIT", ends(furnish), nil, nil, nothing, "APPEND nowhere {1+}\r\nx", tryIt},
		{"TRYCREATE, LIMIT", ends(furnish), []string{"s SELECT inbox"}, nil, nothing, "MOVE 1 nowhere", tryIt},
		{"TRYCREATE, OVERQUOTA", noRoom, nil, nil, nothing, "APPEND nowhere {1+}\r\nx", tryIt},
		{"TRYCREATE, OVERQUOTA", noRoom, []string{"s SELECT inbox"}, nil, nothing, "COPY 1 nowhere", tryIt},
		{"TRYCREATE, nothing to do", has(furnish), []string{"s SELECT inbox"}, nil, nothing, "UID COPY 9 nowhere", tryIt},
		{"CANNOT, nothing to do", has(furnish), []string{"s SELECT inbox"}, nil, nothing, `UID MOVE 9 "%"`, cannot},
		{"ALREADYEXISTS, INUSE", has(furnish), []string{"s SELECT q"}, nil, nothing, "RENAME q p", isThere},
		{"ALREADYEXISTS, INUSE", has(furnish), nil, []string{"s SELECT p"}, nothing, "RENAME p p", isThere},
		{"ALREADYEXISTS, LIMIT", has(many), nil, nil, nothing, "CREATE q/r", isThere},
		{"ALREADYEXISTS, LIMIT", ends(furnish), nil, nil, nothing, "RENAME p q", isThere},
		{"ALREADYEXISTS, OVERQUOTA", noRoom, nil, nil, nothing, "CREATE q", isThere},
		{"HASCHILDREN, INUSE", has(furnish), []string{"s SELECT q"}, nil, nothing, "DELETE q", hasKids},
		{"HASCHILDREN, INUSE below", has(furnish), nil, []string{"s SELECT q/r"}, nothing, "DELETE q", hasKids},
		{"HASCHILDREN, LIMIT", ends(furnish), nil, nil, nothing, "DELETE q", hasKids},
		{"HASCHILDREN, OVERQUOTA", noRoom, nil, nil, nothing, "DELETE q", hasKids},
		{"INUSE, LIMIT (ErrEnd)", ends(furnish), nil, []string{"s SELECT p"}, nothing, "DELETE p", inUse},
		{"INUSE, LIMIT (ErrEnd)", ends(furnish), []string{"s EXAMINE p"}, nil, nothing, "RENAME p z", inUse},
		{"INUSE below, LIMIT (ErrEnd)", ends(furnish), nil, []string{"s EXAMINE q/r"}, nothing, "RENAME q z", inUse},
		{"INUSE, LIMIT (ErrEnd)", ends(furnish), nil, []string{"s SELECT inbox"}, nothing, "RENAME inbox z", inUse},
		{"INUSE, LIMIT (ErrLimit)", has(many), nil, []string{"s SELECT p"}, nothing, "RENAME p z/z", inUse},
		{"INUSE below, LIMIT (ErrLimit)", has(many), nil, []string{"s SELECT q/r"}, nothing, "RENAME q z/z", inUse},
		{"INUSE, LIMIT (ErrLimit)", has(many), []string{"s SELECT inbox"}, nil, nothing, "RENAME inbox z", inUse},
		{"INUSE, OVERQUOTA", noRoom, nil, []string{"s SELECT p"}, nothing, "DELETE p", inUse},
		{"INUSE, OVERQUOTA", noRoom, nil, []string{"s SELECT q/r"}, nothing, "RENAME q z", inUse},
		{"LIMIT alone", has(many), nil, nil, nothing, "RENAME p z/z", tooMuch},
		{"LIMIT alone", has(many), nil, nil, nothing, "RENAME inbox z", tooMuch},
		{"LIMIT alone", has(many), nil, nil, nothing, "CREATE z", tooMuch},
		{"LIMIT alone", has(crowded), nil, nil, nothing, "APPEND q {1+}\r\nx", tooMuch},
		{"LIMIT alone", has(crowded), nil, nil, nothing, "APPEND inbox (i) {1+}\r\nx", tooMuch},
		{"LIMIT alone", has(crowded), []string{"s SELECT inbox"}, nil, nothing, "COPY 1 q", tooMuch},
		{"LIMIT alone", has(crowded), []string{"s SELECT inbox"}, nil, nothing, "MOVE 1 q", tooMuch},
		{"LIMIT alone", has(crowded), []string{"s SELECT inbox"}, nil, nothing, "STORE 1 +FLAGS (i)", tooMuch},
		{"LIMIT, OVERQUOTA", noRoom, nil, nil, nothing, "APPEND inbox (a b c d e f g h i) {1+}\r\nx", tooMuch},
		{"LIMIT, OVERQUOTA", noRoom, []string{"s SELECT inbox"}, nil, nothing, "STORE 1 +FLAGS (a b c d e f g h i)", tooMuch},
		{"MaxOutput, OVERQUOTA", noRoom, []string{"s SELECT inbox"}, nil, nothing, "FETCH 1 " + twelve(9000), tooMuch},
		{"OVERQUOTA alone", noRoom, []string{"s SELECT inbox"}, nil, nothing, "FETCH 1 BODY[]<0.1>", isFull},
	} {
		h := c.house(t)
		if len(c.first) > 0 {
			h.done(0, c.first...)
		}
		if len(c.second) > 0 {
			h.done(1, c.second...)
		}
		c.then(h)
		h.wantEnd(0, "a "+c.line, "a "+c.want)
		if t.Failed() {
			t.Fatal(c.what)
		}
	}
}

// twelve are items each of which tells some bytes of the whole message, under names of their own.
func twelve(bytes int) string {
	var items []string
	for i := range api.MaxItems {
		items = append(items, fmt.Sprintf("BODY[]<%d.%d>", i, bytes))
	}
	return "(" + strings.Join(items, " ") + ")"
}

// P17.3: user and password; charsets.
func TestAuthAndCharset(t *testing.T) {
	h := build(t, 1, someRules())
	h.want(0, "a LOGIN u q", "a NO [AUTHENTICATIONFAILED] wrong user or password")
	h.done(0, "a LOGIN u p", "a SELECT inbox")
	for _, line := range []string{"SEARCH CHARSET x ALL", "SORT (DATE) x ALL", "THREAD REFERENCES x ALL"} {
		h.want(0, "a "+line, "a "+unknown)
		h.want(0, "a UID "+line, "a "+unknown)
	}
}

// noNames are texts that FromWire refuses.
var noNames = []string{"", "/", "a//b", "/a", "a%", "*", "&", "&AGE-", "&AOk-&AOk-", "&AOk", "\xff", "a\x01", "1/2/3/4/5/6/7", strings.Repeat("l", api.MaxLevel+1), strings.Repeat("a", 300)}

// P17.3: names that FromWire refuses: where a mailbox is made or filled CANNOT, else NONEXISTENT.
func TestNoNames(t *testing.T) {
	h := entered(t, 1, someRules())
	furnish(h)
	h.done(0, "s SELECT inbox")
	for _, name := range append(noNames, "a/", "inbox/") {
		lines := map[string]string{
			"RENAME q " + literal(name): cannot, "APPEND " + literal(name) + " {1+}\r\nx": cannot, "COPY 1 " + literal(name): cannot, "UID MOVE 1 " + literal(name): cannot,
			"UID MOVE 9 " + literal(name): cannot, "RENAME " + literal(name) + " " + literal(name): cannot,
			"DELETE " + literal(name): isNone, "SUBSCRIBE " + literal(name): isNone, "UNSUBSCRIBE " + literal(name): isNone,
			"STATUS " + literal(name) + " (MESSAGES)": isNone, "RENAME " + literal(name) + " z": isNone,
		}
		if !strings.HasSuffix(name, "/") || name == "/" {
			lines["CREATE "+literal(name)] = cannot
		}
		for line, want := range lines {
			h.want(0, "a "+line, "a "+want)
		}
		for _, verb := range []string{"SELECT", "EXAMINE"} {
			h.want(0, "a "+verb+" "+literal(name), "* OK [CLOSED] the mailbox is closed", "a "+isNone)
			h.want(0, "a "+verb+" "+literal(name), "a "+isNone)
			h.done(0, "s SELECT inbox")
		}
	}
}

package session_test

import (
	"fmt"
	"strings"
	"testing"

	"postbag/api"
)

// P17.4: LOGIN, byte by byte.
func TestLogin(t *testing.T) {
	for _, c := range []struct{ user, pass, wrongUser, wrongPass string }{
		{"u", "p", "U", "P"}, {"u", "p", "", ""}, {"u", "p", "uu", "pp"}, {"u", "p", "u ", " p"}, {"u", "p", "p", "u"},
		{"", "", "x", "x"}, {"a b", "\xe4\"\\", "a  b", "\xc4\"\\"}, {"\r\n", "(", "\n", ")"}, {strings.Repeat("u", 300), "p", strings.Repeat("u", 299), "p "},
	} {
		rules := someRules()
		rules.User, rules.Pass = c.user, c.pass
		h := build(t, 1, rules)
		for _, wrong := range [][2]string{{c.wrongUser, c.pass}, {c.user, c.wrongPass}, {c.wrongUser, c.wrongPass}} {
			h.want(0, "a LOGIN "+literal(wrong[0])+" "+literal(wrong[1]), "a NO [AUTHENTICATIONFAILED] wrong user or password")
			h.wantSight(0, api.SessionSight{State: api.StateFresh})
		}
		h.want(0, "a LOGIN "+literal(c.user)+" "+literal(c.pass), "a OK LOGIN done")
		h.wantSight(0, api.SessionSight{State: api.StateKnown})
	}
	rules := someRules()
	rules.User = "a\x00b"
	h := build(t, 1, rules)
	h.want(0, "a LOGIN "+literal("a\x00b")+" p", "a BAD no literal")
	h.want(0, "a LOGIN a p", "a NO [AUTHENTICATIONFAILED] wrong user or password")
}

// P17.4: what tells something of the server alone.
func TestServer(t *testing.T) {
	for _, state := range []int{api.StateFresh, api.StateKnown, api.StateSelected} {
		h := at(t, state, false)
		h.want(0, "a CAPABILITY", "* CAPABILITY "+caps, "a OK CAPABILITY done")
		h.want(0, "a NOOP", "a OK NOOP done")
		if state == api.StateFresh {
			continue
		}
		h.want(0, "a NAMESPACE", `* NAMESPACE (("" "/")) NIL NIL`, "a OK NAMESPACE done")
		h.want(0, "a ENABLE x y", "* ENABLED", "a OK ENABLE done")
		h.want(0, "a ENABLE x cOndStore CONDSTORE", "* ENABLED CONDSTORE", "a OK ENABLE done")
		h.want(0, "a ENABLE CONDSTORE", "* ENABLED", "a OK ENABLE done")
		h.want(0, "a ENABLE x", "* ENABLED", "a OK ENABLE done")
	}
	h := at(t, api.StateKnown, false)
	h.done(0, "a STATUS inbox (HIGHESTMODSEQ)")
	h.want(0, "a ENABLE CONDSTORE", "* ENABLED", "a OK ENABLE done")
	h = at(t, api.StateSelected, false)
	h.want(0, "a CHECK", "a OK CHECK done")
}

// names are all mailboxes, by their names and validities.
func (h *house) names() string {
	var out []string
	for _, box := range h.store().Boxes() {
		out = append(out, fmt.Sprintf("%s %d", box.Name, box.Validity))
	}
	return strings.Join(out, ", ")
}

func (h *house) wantNames(want string) {
	h.t.Helper()
	if got := h.names(); got != want {
		h.t.Errorf("mailboxes %q, not %q", got, want)
	}
}

// P17.4: CREATE, with one and two / at the end; names on the wire.
func TestCreate(t *testing.T) {
	h := entered(t, 1, someRules())
	h.want(0, "a CREATE x/y/", "a OK CREATE done")
	h.want(0, "a CREATE x/y", "a "+isThere)
	h.want(0, "a CREATE x/", "a "+isThere)
	h.want(0, "a CREATE z//", "a "+cannot)
	h.want(0, "a CREATE /", "a "+cannot)
	h.want(0, "a CREATE //", "a "+cannot)
	h.want(0, `a CREATE ""`, "a "+cannot)
	h.want(0, "a CREATE InBox/", "a "+cannot)
	h.want(0, "a CREATE inBox/Q", "a OK CREATE done")
	h.want(0, `a CREATE "&AOk-/&-/"`, "a OK CREATE done")
	h.want(0, `a CREATE "&AOk"`, "a "+cannot)
	h.want(0, `a CREATE "a b"`, "a OK CREATE done")
	h.wantNames("INBOX 1, INBOX/Q 4, a b 7, x 2, x/y 3, é 5, é/& 6")
	for i := range api.MaxBoxes - 7 {
		h.done(0, fmt.Sprintf("a CREATE b%d/", i))
	}
	h.want(0, "a CREATE b99/", "a "+tooMuch)
}

// P17.4: DELETE and RENAME; whoever has a mailbox selected, it is in use, by this connection too.
func TestDeleteAndRename(t *testing.T) {
	h := entered(t, 2, someRules())
	furnish(h)
	h.wantNames("INBOX 1, p 4, q 2, q/r 3")
	for _, verb := range []string{"SELECT", "EXAMINE"} {
		for k := range 2 {
			h.done(k, "s "+verb+" q/r")
			h.want(0, "a DELETE q/r", "a "+inUse)
			h.want(0, "a RENAME q/r z", "a "+inUse)
			h.want(0, "a RENAME q z", "a "+inUse)
			h.done(k, "s UNSELECT")
			h.done(k, "s "+verb+" inbox")
			h.want(0, "a RENAME Inbox z", "a "+inUse)
			h.done(k, "s UNSELECT")
		}
	}
	h.done(1, "s SELECT q")
	h.want(0, "a DELETE q/r", "a OK DELETE done")
	h.wantNames("INBOX 1, p 4, q 2")
	h.want(0, "a RENAME p q/p", "a OK RENAME done")
	h.wantNames("INBOX 1, q 2, q/p 5")
	h.want(0, "a RENAME q/p &AOk-", "a OK RENAME done")
	h.done(1, "s SELECT &AOk-")
	h.want(0, "a RENAME q qq/q", "a OK RENAME done")
	h.wantNames("INBOX 1, qq 7, qq/q 8, é 6")
	h.want(0, "a DELETE &AOk-", "a "+inUse)
	h.done(1, "s UNSELECT")
	h.want(0, "a DELETE &AOk-", "a OK DELETE done")
	h.want(0, "a DELETE &AOk-", "a "+isNone)
	h.want(0, "a RENAME nowhere there", "a "+isNone)
}

// P17.4: RENAME of INBOX goes by INBOX itself alone, whoever has one below it selected.
func TestRenameInbox(t *testing.T) {
	h := entered(t, 2, someRules())
	furnish(h)
	h.done(0, "a CREATE inbox/below", "a CREATE inbo", "a CREATE inboxes")
	h.done(1, "s SELECT inbox/below")
	h.want(0, "a RENAME inbox old/er", "a OK RENAME done")
	h.want(0, "a STATUS old/er (MESSAGES UIDNEXT UIDVALIDITY)", "* STATUS old/er (MESSAGES 3 UIDNEXT 4 UIDVALIDITY 9)", "a OK STATUS done")
	h.want(0, "a STATUS inbox (MESSAGES UIDNEXT UIDVALIDITY)", "* STATUS INBOX (MESSAGES 0 UIDNEXT 4 UIDVALIDITY 1)", "a OK STATUS done")
	h.want(0, "a RENAME inbox/below z", "a "+inUse)
	// Below is only what begins with the name and a slash.
	h.done(1, "s SELECT q/r", "s UNSELECT", "s CREATE qq", "s SELECT qq")
	h.want(0, "a RENAME q y", "a OK RENAME done")
}

// P17.4: SUBSCRIBE, UNSUBSCRIBE, LSUB.
func TestSubscriptions(t *testing.T) {
	h := entered(t, 1, someRules())
	furnish(h)
	h.done(0, "a CREATE &AOk-", `a CREATE "a b/c"`)
	for _, name := range []string{"q/r", "&AOk-", `"a b/c"`, "Inbox", "q/r"} {
		h.want(0, "a SUBSCRIBE "+name, "a OK SUBSCRIBE done")
	}
	h.want(0, "a SUBSCRIBE nowhere", "a "+isNone)
	h.want(0, "a UNSUBSCRIBE nowhere", "a OK UNSUBSCRIBE done")
	h.done(0, `a DELETE "a b/c"`, "a DELETE &AOk-")
	all := []string{`* LSUB () "/" INBOX`, `* LSUB (\Noselect) "/" "a b/c"`, `* LSUB () "/" q/r`, `* LSUB (\Noselect) "/" &AOk-`}
	h.want(0, `a LSUB "" *`, append(all, "a OK LSUB done")...)
	h.want(0, `a LSUB "" %`, all[0], all[3], "a OK LSUB done")
	h.want(0, `a LSUB "a b" /*`, all[1], "a OK LSUB done")
	h.want(0, `a LSUB inb %`, all[0], "a OK LSUB done")
	h.want(0, `a LSUB "" ""`, `* LSUB (\Noselect) "/" ""`, "a OK LSUB done")
	h.want(0, `a LSUB q ""`, `* LSUB (\Noselect) "/" ""`, "a OK LSUB done")
	h.want(0, "a UNSUBSCRIBE iNbox", "a OK UNSUBSCRIBE done")
	h.want(0, `a UNSUBSCRIBE "a b/c"`, "a OK UNSUBSCRIBE done")
	h.want(0, `a LSUB "" *`, all[2], all[3], "a OK LSUB done")
	h.want(0, "a SUBSCRIBE &AOk-", "a "+isNone)
}

// P17.4: subscriptions have their limit.
func TestManySubscriptions(t *testing.T) {
	h := entered(t, 1, someRules())
	for i := range api.MaxSubs {
		name := fmt.Sprintf("m%d", i)
		h.done(0, "a CREATE "+name, "a SUBSCRIBE "+name, "a DELETE "+name)
	}
	h.want(0, "a SUBSCRIBE inbox", "a "+tooMuch)
	h.want(0, "a UNSUBSCRIBE m7", "a OK UNSUBSCRIBE done")
	h.want(0, "a SUBSCRIBE inbox", "a OK SUBSCRIBE done")
}

// P17.4: LIST by patterns, Ref and Pattern joined, names that are not plain.
func TestList(t *testing.T) {
	h := entered(t, 1, someRules())
	h.done(0, "a CREATE x/y/z", "a CREATE inbox/a", `a CREATE "&AOk- &-"`, "a CREATE xy", `a CREATE "(\\)"`)
	lines := map[string]string{
		"INBOX": `* LIST (\HasChildren) "/" INBOX`, "INBOX/a": `* LIST (\HasNoChildren) "/" INBOX/a`, "x": `* LIST (\HasChildren) "/" x`,
		"x/y": `* LIST (\HasChildren) "/" x/y`, "x/y/z": `* LIST (\HasNoChildren) "/" x/y/z`, "xy": `* LIST (\HasNoChildren) "/" xy`,
		"é &": `* LIST (\HasNoChildren) "/" "&AOk- &-"`, `(\)`: `* LIST (\HasNoChildren) "/" "(\\)"`,
	}
	for _, c := range []struct {
		asked string
		want  []string
	}{
		{`"" *`, []string{`(\)`, "INBOX", "INBOX/a", "x", "x/y", "x/y/z", "xy", "é &"}},
		{`"" %`, []string{`(\)`, "INBOX", "x", "xy", "é &"}},
		{`"" %/%`, []string{"INBOX/a", "x/y"}},
		{`x %`, []string{"x", "xy"}},
		{`x *`, []string{"x", "x/y", "x/y/z", "xy"}},
		{`x/ %`, []string{"x/y"}},
		{`"x/y" "/z"`, []string{"x/y/z"}},
		{`"" x`, []string{"x"}},
		{`"" inbox`, []string{"INBOX"}},
		{`iN bOX/a`, []string{"INBOX/a"}},
		{`"" inbox/A`, nil},
		{`"" X`, nil},
		{`"" *&-`, []string{"é &"}},
		{`"" "&AOk- &-"`, []string{"é &"}},
		{`"&AOk-" *`, []string{"é &"}},
		{`"" ` + literal("é &"), nil},
		{`"" ` + literal("é*"), nil},
		{`"" ` + literal("\xff"), nil},
		{`"" nowhere`, nil},
		{`"*" x`, []string{"INBOX", "x"}},
		{`"*/" "%"`, []string{"INBOX/a", "x/y", "x/y/z"}},
	} {
		var want []string
		for _, name := range c.want {
			want = append(want, lines[name])
		}
		h.want(0, "a LIST "+c.asked, append(want, "a OK LIST done")...)
	}
	h.want(0, `a LIST "" ""`, `* LIST (\Noselect) "/" ""`, "a OK LIST done")
	h.want(0, `a LIST x/y ""`, `* LIST (\Noselect) "/" ""`, "a OK LIST done")
}

// P17.4: STATUS with each item, in any order, of mailboxes that nobody, somebody else, or this connection has selected.
func TestStatus(t *testing.T) {
	rules := someRules()
	rules.Uid = 7
	h := entered(t, 2, rules)
	h.done(0, "a CREATE &AOk-")
	h.add(0, "&AOk-", "", "one", "two")
	h.add(0, "&AOk-", `\Seen k`, "three")
	for _, c := range [][2]string{
		{"MESSAGES", "MESSAGES 3"}, {"RECENT", "RECENT 3"}, {"UIDNEXT", "UIDNEXT 10"}, {"UIDVALIDITY", "UIDVALIDITY 2"},
		{"UNSEEN", "UNSEEN 2"}, {"HIGHESTMODSEQ", "HIGHESTMODSEQ 5"},
		{"unseen Recent HIGHESTMODSEQ messages UIDVALIDITY UIDNEXT", "UNSEEN 2 RECENT 3 HIGHESTMODSEQ 5 MESSAGES 3 UIDVALIDITY 2 UIDNEXT 10"},
	} {
		h.want(0, "a STATUS &AOk- ("+c[0]+")", "* STATUS &AOk- ("+c[1]+")", "a OK STATUS done")
	}
	h.want(0, "a STATUS nowhere (RECENT)", "a "+isNone)
	h.want(0, "a STATUS INBOX (MESSAGES RECENT UNSEEN UIDNEXT)", "* STATUS INBOX (MESSAGES 0 RECENT 0 UNSEEN 0 UIDNEXT 7)", "a OK STATUS done")

	recent := func(want int) {
		t.Helper()
		for k := range 2 {
			h.wantEndHas(k, "a STATUS &AOk- (RECENT)", fmt.Sprintf("* STATUS &AOk- (RECENT %d)", want))
		}
	}
	h.done(1, "s EXAMINE &AOk-")
	recent(3)
	h.done(1, "s SELECT &AOk-")
	recent(0)
	h.commit(h.store().Add("é", nil, now, "four"))
	h.want(0, "a STATUS &AOk- (RECENT MESSAGES)", "* STATUS &AOk- (RECENT 1 MESSAGES 4)", "a OK STATUS done")
	h.done(1, "s NOOP")
	recent(0)
	h.commit(h.store().Add("é", nil, now, "five"))
	h.done(1, "s UNSELECT")
	recent(1)
	h.commit(h.store().Expunge(2, []int{11}))
	recent(0)
}

// wantEndHas holds the first line of what is told.
func (h *house) wantEndHas(k int, line, want string) {
	h.t.Helper()
	if got := h.say(k, line); len(got) == 0 || got[0] != want {
		h.t.Errorf("%q: told %q, not %q", line, got, want)
	}
}

// P17.4: APPEND with flags, with and without a date; its code names the message.
func TestAppend(t *testing.T) {
	rules := someRules()
	rules.Uid, rules.Validity = 5, 9
	rules.Now = api.Moment{Year: 1999, Month: 12, Day: 31, Hour: 23, Minute: 59, Second: 58, Zone: -90}
	h := entered(t, 1, rules)
	h.want(0, "a APPEND Inbox {2+}\r\nab", "a OK [APPENDUID 9 5] APPEND done")
	h.want(0, `a APPEND INBOX (\seen Work \DELETED wOrk) " 5-Feb-2026 01:02:03 +0130" {0+}`+"\r\n", "a OK [APPENDUID 9 6] APPEND done")
	h.want(0, `a APPEND inbox (WORK) "15-Feb-2026 01:02:03 -0000" `+literal("\r\n\xff"), "a OK [APPENDUID 9 7] APPEND done")
	h.done(0, "a CREATE q")
	h.want(0, "a APPEND q {1+}\r\nx", "a OK [APPENDUID 10 5] APPEND done")
	h.done(0, "a EXAMINE inbox")
	h.want(0, "a FETCH 1:* (UID FLAGS INTERNALDATE BODY[])",
		`* 1 FETCH (UID 5 FLAGS (\Recent) INTERNALDATE "31-Dec-1999 23:59:58 -0130" BODY[] "ab")`,
		`* 2 FETCH (UID 6 FLAGS (\Deleted \Seen Work \Recent) INTERNALDATE " 5-Feb-2026 01:02:03 +0130" BODY[] "")`,
		`* 3 FETCH (UID 7 FLAGS (Work \Recent) INTERNALDATE "15-Feb-2026 01:02:03 +0000" BODY[] {3}`+"\r\n\r\n\xff)",
		"a OK FETCH done")
	h.want(0, "a APPEND nowhere {1+}\r\nx", "a "+tryIt)
	for range api.MaxMails - 3 {
		h.add(0, "inbox", "", "x")
	}
	h.want(0, "a APPEND inbox {1+}\r\nx", "a "+tooMuch)
}

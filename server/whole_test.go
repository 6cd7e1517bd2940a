package server_test

import (
	"fmt"
	"slices"
	"strconv"
	"strings"
	"testing"

	"postbag/api"
)

// example is one of the ten of DOC.md: its steps, each with the lines that are sent behind it. Of SELECT the untagged ones are left out, but in the second.
type example struct {
	quota      int
	isWhole    bool // what SELECT tells is there
	transcript string
}

// played is the transcript of an example's steps: each step's line, the lines that are sent, and the store at the end.
func played(t *testing.T, x example) string {
	rules := someRules()
	rules.Quota = x.quota
	m := build(t, rules)
	var out strings.Builder
	for line := range strings.Lines(x.transcript) {
		if strings.HasPrefix(line, " ") || strings.HasPrefix(line, "store") {
			continue
		}
		out.WriteString(line)
		_, text, _ := strings.Cut(strings.TrimSpace(line), ": ")
		step := stepOf(t, text)
		for _, w := range m.do(step) {
			isSelect := strings.Contains(step.Bytes, " SELECT ")
			for piece := range strings.Lines(w.Text) {
				if x.isWhole || !isSelect || !strings.HasPrefix(piece, "* ") {
					fmt.Fprintf(&out, "  to %d %q\n", w.Conn, piece)
				}
			}
			if w.Closed {
				fmt.Fprintf(&out, "  closed %d\n", w.Conn)
			}
		}
	}
	fmt.Fprintf(&out, "store %d\n", m.Store().Last())
	for _, b := range m.Store().Boxes() {
		fmt.Fprintf(&out, "  %q %d %d %d %d", b.Name, b.Validity, b.Next, b.Highest, b.Count)
		mails, _ := m.Store().Mails(b.Validity)
		for _, mail := range mails {
			fmt.Fprintf(&out, " [%s]", strings.Join(append([]string{fmt.Sprint(mail.Uid), fmt.Sprint(mail.Modseq)}, mail.Flags...), " "))
		}
		out.WriteString("\n")
	}
	return out.String()
}

// stepOf is a step as DOC.md writes it.
func stepOf(t *testing.T, text string) api.Step {
	t.Helper()
	words := strings.SplitN(text, " ", 3)
	var numbers []int
	for _, word := range strings.Fields(text)[1:] {
		n, _ := strconv.Atoi(word)
		numbers = append(numbers, n)
	}
	switch words[0] {
	case "open":
		return open(numbers[0])
	case "start":
		return start()
	case "check":
		return check()
	case "plan":
		return plan(stopAt(numbers[0], numbers[1], numbers[2]))
	}
	said, err := strconv.Unquote(words[2])
	if err != nil {
		t.Fatalf("%s: %v", text, err)
	}
	if said == "y (120 times)" {
		said = strings.Repeat("y", 120)
	}
	if words[0] == "line" {
		said += "\r\n"
	}
	return bytes(numbers[0], said)
}

func tenExamples() []example {
	greet := func(conn int) string { return fmt.Sprintf("  to %d %q\n", conn, hello+"\r\n") }
	login := func(at, conn int, tag string) string {
		return fmt.Sprintf("%d: open %d\n%s%d: line %d %q\n  to %d %q\n", at, conn, greet(conn), at+1, conn, tag+" LOGIN u p", conn, tag+" OK LOGIN done\r\n")
	}
	a, b := login(0, 1, "a1"), func(at int) string { return login(at, 2, "b1") }
	return []example{
		{100000, false, a + `2: line 1 "a2 CREATE x/y"
  to 1 "a2 OK CREATE done\r\n"
3: line 1 "a3 LIST \"\" *"
  to 1 "* LIST (\\HasNoChildren) \"/\" INBOX\r\n"
  to 1 "* LIST (\\HasChildren) \"/\" x\r\n"
  to 1 "* LIST (\\HasNoChildren) \"/\" x/y\r\n"
  to 1 "a3 OK LIST done\r\n"
4: line 1 "a4 CREATE inbox"
  to 1 "a4 NO [CANNOT] no mailbox may be named so\r\n"
5: line 1 "a5 LOGOUT"
  to 1 "* BYE until next time\r\n"
  to 1 "a5 OK LOGOUT done\r\n"
  closed 1
store 2
  "INBOX" 1 1 1 0
  "x" 2 1 2 0
  "x/y" 3 1 2 0
`},
		{100000, true, a + `2: line 1 "a2 APPEND inbox (\\Flagged) {23+}"
3: line 1 "Subject: hi\r\n\r\nhello, p"
  to 1 "a2 OK [APPENDUID 1 1] APPEND done\r\n"
4: line 1 "a3 SELECT inbox"
  to 1 "* FLAGS (\\Answered \\Deleted \\Draft \\Flagged \\Seen)\r\n"
  to 1 "* 1 EXISTS\r\n"
  to 1 "* 1 RECENT\r\n"
  to 1 "* OK [UNSEEN 1] the first unseen one\r\n"
  to 1 "* OK [PERMANENTFLAGS (\\Answered \\Deleted \\Draft \\Flagged \\Seen \\*)] these can be kept\r\n"
  to 1 "* OK [UIDNEXT 2] the next uid\r\n"
  to 1 "* OK [UIDVALIDITY 1] the validity\r\n"
  to 1 "* OK [HIGHESTMODSEQ 2] the highest modseq\r\n"
  to 1 "a3 OK [READ-WRITE] SELECT done\r\n"
5: line 1 "a4 FETCH 1 (FLAGS BODY.PEEK[HEADER] BODY[TEXT]<0.5>)"
  to 1 "* 1 FETCH (FLAGS (\\Flagged \\Seen \\Recent) BODY[HEADER] {15}\r\n"
  to 1 "Subject: hi\r\n"
  to 1 "\r\n"
  to 1 " BODY[TEXT]<0> \"hello\")\r\n"
  to 1 "a4 OK FETCH done\r\n"
store 3
  "INBOX" 1 2 3 1 [1 3 \Flagged \Seen]
`},
		{100000, false, a + `2: line 1 "a2 APPEND inbox {1+}"
3: line 1 "x"
  to 1 "a2 OK [APPENDUID 1 1] APPEND done\r\n"
4: line 1 "a3 APPEND inbox {1+}"
5: line 1 "y"
  to 1 "a3 OK [APPENDUID 1 2] APPEND done\r\n"
6: line 1 "a4 SELECT inbox"
  to 1 "a4 OK [READ-WRITE] SELECT done\r\n"
` + b(7) + `9: line 2 "b2 SELECT inbox"
  to 2 "b2 OK [READ-WRITE] SELECT done\r\n"
10: line 2 "b3 STORE 1 +FLAGS (\\Deleted)"
  to 2 "* 1 FETCH (FLAGS (\\Deleted))\r\n"
  to 2 "b3 OK STORE done\r\n"
11: line 2 "b4 EXPUNGE"
  to 2 "* 1 EXPUNGE\r\n"
  to 2 "b4 OK EXPUNGE done\r\n"
12: line 1 "a5 FETCH 1 UID"
  to 1 "a5 NO [EXPUNGEISSUED] some of these have gone\r\n"
13: line 1 "a6 FETCH 2 UID"
  to 1 "* 2 FETCH (UID 2)\r\n"
  to 1 "a6 OK FETCH done\r\n"
14: line 1 "a7 NOOP"
  to 1 "* 1 EXPUNGE\r\n"
  to 1 "a7 OK NOOP done\r\n"
store 5
  "INBOX" 1 3 5 1 [2 3]
`},
		{100000, false, a + `2: line 1 "a2 CREATE q"
  to 1 "a2 OK CREATE done\r\n"
3: line 1 "a3 APPEND inbox {1+}"
4: line 1 "x"
  to 1 "a3 OK [APPENDUID 1 1] APPEND done\r\n"
5: line 1 "a4 APPEND inbox {1+}"
6: line 1 "y"
  to 1 "a4 OK [APPENDUID 1 2] APPEND done\r\n"
7: line 1 "a5 SELECT inbox"
  to 1 "a5 OK [READ-WRITE] SELECT done\r\n"
8: line 1 "a6 COPY 1:2 q"
  to 1 "a6 OK [COPYUID 2 1:2 1:2] COPY done\r\n"
9: line 1 "a7 UID MOVE 1 q"
  to 1 "* OK [COPYUID 2 1 3] moved\r\n"
  to 1 "* 1 EXPUNGE\r\n"
  to 1 "a7 OK UID MOVE done\r\n"
10: line 1 "a8 STATUS q (MESSAGES UIDNEXT)"
  to 1 "* STATUS q (MESSAGES 3 UIDNEXT 4)\r\n"
  to 1 "a8 OK STATUS done\r\n"
11: line 1 "a9 COPY 1 z"
  to 1 "a9 NO [TRYCREATE] no such mailbox\r\n"
store 6
  "INBOX" 1 3 6 1 [2 4]
  "q" 2 4 6 3 [1 5] [2 5] [3 6]
`},
		{100000, false, a + `2: line 1 "a2 APPEND inbox {36+}"
3: line 1 "Subject: b\r\nMessage-ID: <1@x>\r\n\r\none"
  to 1 "a2 OK [APPENDUID 1 1] APPEND done\r\n"
4: line 1 "a3 APPEND inbox {56+}"
5: line 1 "Subject: Re: b\r\nReferences: <1@x>\r\nMessage-ID: <2@x>\r\n\r\n"
  to 1 "a3 OK [APPENDUID 1 2] APPEND done\r\n"
6: line 1 "a4 APPEND inbox (\\Seen) {15+}"
7: line 1 "Subject: a\r\n\r\nz"
  to 1 "a4 OK [APPENDUID 1 3] APPEND done\r\n"
8: line 1 "a5 SELECT inbox"
  to 1 "a5 OK [READ-WRITE] SELECT done\r\n"
9: line 1 "a6 SEARCH UNSEEN SUBJECT b"
  to 1 "* SEARCH 1 2\r\n"
  to 1 "a6 OK SEARCH done\r\n"
10: line 1 "a7 UID SORT (SUBJECT) US-ASCII ALL"
  to 1 "* SORT 3 1 2\r\n"
  to 1 "a7 OK UID SORT done\r\n"
11: line 1 "a8 THREAD REFERENCES UTF-8 ALL"
  to 1 "* THREAD (1 2)(3)\r\n"
  to 1 "a8 OK THREAD done\r\n"
12: line 1 "a9 SEARCH RETURN (MIN COUNT) NOT SEEN"
  to 1 "* ESEARCH (TAG \"a9\") MIN 1 COUNT 2\r\n"
  to 1 "a9 OK SEARCH done\r\n"
store 4
  "INBOX" 1 4 4 3 [1 2] [2 3] [3 4 \Seen]
`},
		{100000, false, a + `2: line 1 "a2 APPEND inbox {1+}"
3: line 1 "x"
  to 1 "a2 OK [APPENDUID 1 1] APPEND done\r\n"
4: line 1 "a3 APPEND inbox {1+}"
5: line 1 "y"
  to 1 "a3 OK [APPENDUID 1 2] APPEND done\r\n"
6: line 1 "a4 SELECT inbox (CONDSTORE)"
  to 1 "a4 OK [READ-WRITE] SELECT done\r\n"
7: line 1 "a5 STORE 2 (UNCHANGEDSINCE 4) +FLAGS (k)"
  to 1 "* 2 FETCH (FLAGS (k \\Recent) MODSEQ (4))\r\n"
  to 1 "a5 OK STORE done\r\n"
8: line 1 "a6 STORE 1:2 (UNCHANGEDSINCE 3) +FLAGS.SILENT (k)"
  to 1 "a6 OK [MODIFIED 2] STORE done\r\n"
9: line 1 "a7 UID FETCH 1:* (FLAGS) (CHANGEDSINCE 4)"
  to 1 "* 1 FETCH (UID 1 FLAGS (k \\Recent) MODSEQ (5))\r\n"
  to 1 "a7 OK UID FETCH done\r\n"
store 5
  "INBOX" 1 3 5 2 [1 5 k] [2 4 k]
`},
		{100000, false, a + `2: line 1 "a2 SELECT inbox"
  to 1 "a2 OK [READ-WRITE] SELECT done\r\n"
3: line 1 "a3 IDLE"
  to 1 "+ idling\r\n"
` + b(4) + `6: line 2 "b2 APPEND inbox {1+}"
7: line 2 "x"
  to 2 "b2 OK [APPENDUID 1 1] APPEND done\r\n"
  to 1 "* 1 EXISTS\r\n"
  to 1 "* 1 RECENT\r\n"
8: line 1 "done"
  to 1 "a3 OK IDLE done\r\n"
9: line 1 "a4 IDLE"
  to 1 "+ idling\r\n"
10: line 1 "a5 NOOP"
  to 1 "a4 BAD IDLE is over\r\n"
store 2
  "INBOX" 1 2 2 1 [1 2]
`},
		{100000, false, a + `2: line 1 "a2 CREATE q"
  to 1 "a2 OK CREATE done\r\n"
3: plan 2 0 0
4: line 1 "a3 CREATE r"
  closed 1
5: start
` + login(6, 1, "a4") + `8: line 1 "a5 LIST \"\" *"
  to 1 "* LIST (\\HasNoChildren) \"/\" INBOX\r\n"
  to 1 "* LIST (\\HasNoChildren) \"/\" q\r\n"
  to 1 "a5 OK LIST done\r\n"
9: plan 2 1 0
10: line 1 "a6 CREATE s"
  closed 1
11: start
store 3
  "INBOX" 1 1 1 0
  "q" 2 1 2 0
  "s" 3 1 3 0
`},
		{100000, false, a + `2: line 1 "a2 CREATE q"
  to 1 "a2 OK CREATE done\r\n"
3: plan 4 0 0
4: check
  closed 1
5: start
` + b(6) + `8: line 2 "b2 CREATE r"
  to 2 "b2 OK CREATE done\r\n"
store 3
  "INBOX" 1 1 1 0
  "q" 2 1 2 0
  "r" 3 1 3 0
`},
		{8300, false, `0: open 1
` + greet(1) + `1: line 1 "a1 SELECT inbox"
  to 1 "a1 BAD not now\r\n"
2: line 1 "a2 LOGIN u q"
  to 1 "a2 NO [AUTHENTICATIONFAILED] wrong user or password\r\n"
3: line 1 "a3 LOGIN u p"
  to 1 "a3 OK LOGIN done\r\n"
4: line 1 "a4 FROB"
  to 1 "a4 BAD no command\r\n"
5: line 1 "a5 SELECT {99999}"
  to 1 "a5 BAD no literal\r\n"
6: line 1 "nonsense"
  to 1 "nonsense BAD no command\r\n"
7: line 1 "a6 APPEND inbox {120+}"
8: line 1 "y (120 times)"
  to 1 "a6 NO [OVERQUOTA] the disk is full\r\n"
9: line 1 "a7 SELECT inbox"
  to 1 "a7 OK [READ-WRITE] SELECT done\r\n"
10: line 1 "a8 FETCH 1 UID"
  to 1 "a8 BAD no such message\r\n"
11: line 1 "a9 APPEND q {3}"
  to 1 "+ go ahead\r\n"
12: bytes 1 "xyz"
13: line 1 ""
  to 1 "a9 NO [TRYCREATE] no such mailbox\r\n"
store 1
  "INBOX" 1 1 1 0
`},
	}
}

// The ten examples of the whole, of DOC.md.
func TestTenExamples(t *testing.T) {
	for i, x := range tenExamples() {
		if got := played(t, x); got != x.transcript {
			was, is := strings.Split(x.transcript, "\n"), strings.Split(got, "\n")
			at := 0
			for at < min(len(was), len(is)) && was[at] == is[at] {
				at++
			}
			t.Errorf("example %d: %q\nnot %q", i+1, is[at:min(len(is), at+4)], was[at:min(len(was), at+4)])
		}
	}
}

// P0.8: sections of a message join, behind copies, moves, renames and starts too.
func TestSections(t *testing.T) {
	raw := "Subject: parts\r\nContent-Type: multipart/mixed; boundary=b\r\n\r\nahead\r\n--b\r\n\r\none\r\n--b\r\nContent-Type: message/rfc822\r\n\r\nSubject: inner\r\n\r\ntwo\r\n--b--\r\nbehind"
	m := entered(t, 1, someRules())
	m.done(1, "a CREATE q", "b APPEND inbox "+literal(raw), "c SELECT inbox")
	section := func(name string) string {
		t.Helper()
		for _, a := range m.answers(lines(1, "s UID FETCH 1:* BODY.PEEK"+name)) {
			for _, d := range a.Data {
				if d.Name != "UID" {
					return d.Value.Text
				}
			}
		}
		t.Fatalf("P0.8: no %s", name)
		return ""
	}
	holds := func(what string) {
		t.Helper()
		whole := section("[]")
		if whole != raw || section("[HEADER]")+section("[TEXT]") != raw {
			t.Errorf("P0.8: %s: %q", what, whole)
		}
		if joined := section("[]<0.40>") + section("[]<40.9>") + section("[]<49.9999>"); joined != raw {
			t.Errorf("P0.8: %s: %q", what, joined)
		}
		one, two := section("[1]"), section("[2]")
		if at := strings.Index(raw, one); at < 0 || strings.Index(raw, two) <= at || !strings.Contains(two, section("[2.TEXT]")) || section("[2.HEADER]")+section("[2.TEXT]") != two {
			t.Errorf("P0.8: %s: the parts %q and %q", what, one, two)
		}
		sent := shown(m.do(lines(1, "s UID FETCH 1:* RFC822.SIZE")))
		if !strings.Contains(sent[0], fmt.Sprintf("RFC822.SIZE %d)", len(raw))) {
			t.Errorf("P0.8: %s: %q", what, sent)
		}
	}
	holds("appended")
	m.done(1, "d COPY 1 q", "e SELECT q")
	holds("copied")
	m.done(1, "f UNSELECT", "g RENAME q r/s", "h SELECT r/s")
	holds("renamed")
	m.done(1, "i CREATE t", "j MOVE 1 t", "k SELECT t")
	holds("moved")
	for _, stop := range []api.Stop{stopAt(1, 0, 0), stopAt(4, 0, 0), stopAt(4, 1, 0)} {
		m.do(plan(stop))
		m.do(check())
		m.do(start())
		m.enter(1)
		m.done(1, "l SELECT t")
		holds("started")
	}
	m.done(1, "m UNSELECT", "n RENAME inbox u", "o SELECT u")
	holds("renamed from INBOX")
}

// P0.11: APPENDUID and COPYUID name just the uids under which the messages are then fetched.
func TestUidplus(t *testing.T) {
	m := entered(t, 2, someRules())
	m.done(1, "a CREATE q")
	m.want(lines(1, "b APPEND inbox "+literal("one"), "c APPEND q "+literal("other"), "d APPEND inbox "+literal("two")), "1 b OK [APPENDUID 1 1] APPEND done", "1 c OK [APPENDUID 2 1] APPEND done", "1 d OK [APPENDUID 1 2] APPEND done")
	m.done(1, "e SELECT inbox")
	m.want(lines(1, "f UID COPY 1:2 q"), "1 f OK [COPYUID 2 1:2 2:3] UID COPY done")
	m.want(lines(1, "g MOVE 2 q"), "1 * OK [COPYUID 2 2 4] moved|* 2 EXPUNGE|g OK MOVE done")
	m.done(2, "a SELECT q")
	var got []string
	for _, a := range m.answers(lines(2, "b UID FETCH 1:* BODY.PEEK[]")) {
		if a.Kind == api.AnswerFetch {
			got = append(got, fmt.Sprint(a.Data[0].Value.Num, " ", a.Data[1].Value.Text))
		}
	}
	if !slices.Equal(got, []string{"1 other", "2 one", "3 two", "4 two"}) {
		t.Errorf("P0.11: %q", got)
	}
}

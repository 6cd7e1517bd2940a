package server_test

import (
	"fmt"
	"math/rand/v2"
	"strings"

	"postbag/api"
)

// Pieces of random lines.

func oneOf[E any](r *rand.Rand, list ...E) E { return list[r.IntN(len(list))] }

func someBox(r *rand.Rand) string {
	if r.IntN(12) == 0 {
		return oneOf(r, "nowhere", "x//y", `"%"`, `""`, "&", "a/", literal("\xff"))
	}
	return oneOf(r, "inbox", "inbox", "INBOX", "a", "a", "b", "a/c", "&AOk-", `"d e"`)
}

func someSet(r *rand.Rand) string {
	number := func() string { return oneOf(r, "*", "1", "1", "2", "3", fmt.Sprint(1+r.IntN(9))) }
	set := oneOf(r, "1:*", number(), number()+":"+number())
	for r.IntN(4) == 0 {
		set += "," + number()
	}
	return set
}

func someFlags(r *rand.Rand) string {
	var flags []string
	for range r.IntN(3) {
		flags = append(flags, oneOf(r, `\Seen`, `\Deleted`, `\Deleted`, `\Draft`, `\Flagged`, "k", "K", "l", fmt.Sprint("w", r.IntN(9))))
	}
	return "(" + strings.Join(flags, " ") + ")"
}

// someBody is a message; some look like answers, or like lines of a client.
func someBody(r *rand.Rand) string {
	switch r.IntN(10) {
	case 0:
		return strings.Repeat(oneOf(r, "x", "\r\n", "\xff", "a OK done\r\n", "a NOOP\r\n"), r.IntN(60))
	case 1:
		return strings.Repeat("x", r.IntN(3000))
	case 2:
		return oneOf(r, "", "\r", "{3}\r\n", "* BYE {4+}\r\nx", ")\r\nt1 OK done\r\n")
	}
	return fmt.Sprintf("Subject: %s%s\r\nMessage-Id: <%d@x>\r\nReferences: <%d@x>\r\n\r\n%s", oneOf(r, "", "Re: "), oneOf(r, "a", "b"), r.IntN(9), r.IntN(9), oneOf(r, "", "body", "more\r\nlines\r\n"))
}

func someItems(r *rand.Rand) string {
	return oneOf(r, "ALL", "(UID FLAGS)", "(UID FLAGS)", "(UID BODY.PEEK[])", "(UID BODY.PEEK[])", "(UID BODY[])", "BODY[TEXT]<0.9>", "(RFC822.SIZE MODSEQ)", "(BODYSTRUCTURE ENVELOPE)", "RFC822.HEADER")
}

// someQuiet is a line that commits nothing, claims nothing and turns no selection, without its tag.
func someQuiet(r *rand.Rand) string {
	uid := oneOf(r, "", "UID ")
	switch r.IntN(14) {
	case 0:
		return oneOf(r, "CAPABILITY", "NAMESPACE", "CHECK", "LOGIN u p", "LOGIN u x", "ENABLE CONDSTORE", "FROB", "FETCH", "NOOP x", "SELECT", "CREATE inbox", "CREATE", "DELETE inbox", "DELETE never")
	case 1:
		return oneOf(r, "LIST ", "LSUB ") + `"" ` + oneOf(r, "*", "%", `""`)
	case 2:
		return "STATUS " + someBox(r) + " (" + oneOf(r, "MESSAGES", "RECENT UNSEEN", "UIDNEXT UIDVALIDITY", "HIGHESTMODSEQ") + ")"
	case 3, 4:
		return uid + "SEARCH " + oneOf(r, "ALL", "RETURN () DELETED", "UNSEEN", "MODSEQ 5", "RECENT", "CHARSET x ALL", someSet(r))
	case 5:
		return uid + oneOf(r, "SORT (SUBJECT) utf-8 ALL", "THREAD REFERENCES utf-8 ALL", "THREAD ORDEREDSUBJECT us-ascii UNSEEN")
	case 6, 7, 8:
		return uid + "FETCH " + someSet(r) + " " + oneOf(r, "(UID FLAGS)", "(UID BODY.PEEK[])", "FULL", "(FLAGS) (CHANGEDSINCE 4)")
	case 9:
		return "CREATE " + oneOf(r, "{99999}", `"`, "x//y", literal("\x00"), literal("%"))
	}
	return "NOOP"
}

// someLine is a line that a client may send, without its tag.
func someLine(r *rand.Rand) string {
	uid := oneOf(r, "", "UID ")
	switch r.IntN(30) {
	case 0:
		return oneOf(r, "LOGOUT", "CLOSE", "UNSELECT", "EXPUNGE", "EXPUNGE", "CLOSE")
	case 1, 2:
		return oneOf(r, "SELECT ", "SELECT ", "EXAMINE ") + someBox(r) + oneOf(r, "", "", " (CONDSTORE)")
	case 3, 4:
		return "CREATE " + oneOf(r, someBox(r), "b/x/y", "q"+fmt.Sprint(r.IntN(9)))
	case 5:
		return "DELETE " + oneOf(r, someBox(r), "q"+fmt.Sprint(r.IntN(9)))
	case 6:
		return "RENAME " + someBox(r) + " " + oneOf(r, someBox(r), "z", "q"+fmt.Sprint(r.IntN(9)))
	case 7:
		return oneOf(r, "SUBSCRIBE ", "UNSUBSCRIBE ") + someBox(r)
	case 8, 9, 10, 11, 12:
		return "APPEND " + oneOf(r, "inbox", "a", someBox(r)) + oneOf(r, "", " "+someFlags(r)) + " " + someLiteral(r, someBody(r))
	case 13:
		return "UID EXPUNGE " + someSet(r)
	case 14, 15:
		return uid + "FETCH " + someSet(r) + " " + someItems(r) + oneOf(r, "", "", fmt.Sprintf(" (CHANGEDSINCE %d)", r.IntN(60)))
	case 16, 17, 18, 19:
		return uid + "STORE " + someSet(r) + oneOf(r, " ", " ", fmt.Sprintf(" (UNCHANGEDSINCE %d) ", r.IntN(60))) + oneOf(r, "", "+", "+", "-") + "FLAGS" + oneOf(r, "", ".SILENT") + " " + someFlags(r)
	case 20:
		return uid + "COPY " + someSet(r) + " " + someBox(r)
	case 21:
		return uid + "MOVE " + someSet(r) + " " + someBox(r)
	case 22, 23, 24:
		return "IDLE"
	}
	return someQuiet(r)
}

// someLiteral is a literal of either kind.
func someLiteral(r *rand.Rand, text string) string {
	return fmt.Sprintf("{%d%s}\r\n%s", len(text), oneOf(r, "+", "+", ""), text)
}

func someRandomRules(r *rand.Rand) api.Rules {
	rules := someRules()
	rules.Quota = oneOf(r, api.MaxDisk, 200000, 60000, 14000, 9000)
	rules.Every = oneOf(r, 0, 0, 1, 2, 7)
	rules.Uid = oneOf(r, 1, 1, 1, 50, end-8)
	rules.Validity = oneOf(r, 1, 1, 700, end-3)
	rules.Number = oneOf(r, 2, 2, 2, 900, end-60)
	return rules
}

func someStops(r *rand.Rand) []api.Stop {
	var stops []api.Stop
	for range 1 + r.IntN(3) {
		stops = append(stops, stopAt(r.IntN(9), oneOf(r, 0, 0, 1, r.IntN(99), 99999), oneOf(r, 0, 0, 1, r.IntN(99), 99999)))
	}
	return stops
}

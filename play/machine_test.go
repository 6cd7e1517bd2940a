package play_test

import (
	"fmt"
	"math/rand/v2"
	"strings"
	"testing"

	"postbag/api"
	"postbag/server"
)

// literal is a text as a client sends it without waiting.
func literal(text string) string { return fmt.Sprintf("{%d+}\r\n%s", len(text), text) }

func someMessage(r *rand.Rand) string {
	return oneOf(r, "x", "", "Subject: hi\r\n\r\nhello", "Subject: a\n\nb\rc\n", "\"quoted\" \\ #", "\x01\x7f\x80\xff", strings.Repeat("long\r\n", 60))
}

func someFlags(r *rand.Rand) string {
	return oneOf(r, `(\Seen)`, `(\Seen \Flagged)`, "(work)", `(Work \Deleted)`, "(a b c)", `(\Deleted)`, "()")
}

// someCommand is a line of a client, without its tag.
func someCommand(r *rand.Rand) string {
	box := oneOf(r, "inbox", "inbox", "a", "a/b", "&AOk-", `"d e"`, "nowhere")
	set := oneOf(r, "1:*", "1", "2", "*", "1,3")
	uid := oneOf(r, "", "UID ")
	switch r.IntN(16) {
	case 0:
		return "CREATE " + box
	case 1:
		return oneOf(r, "DELETE ", "SUBSCRIBE ") + box
	case 2:
		return "RENAME " + box + oneOf(r, " b", " c/d", " a")
	case 3, 4, 5:
		return "APPEND " + box + " " + someFlags(r) + " " + literal(someMessage(r))
	case 6, 7:
		return oneOf(r, "SELECT ", "SELECT ", "EXAMINE ") + box
	case 8, 9:
		return uid + "STORE " + set + oneOf(r, " +", " -", " ") + "FLAGS" + oneOf(r, "", ".SILENT") + " " + someFlags(r)
	case 10:
		return uid + oneOf(r, "COPY ", "MOVE ") + set + " " + box
	case 11:
		return uid + "FETCH " + set + oneOf(r, " (UID FLAGS)", " BODY[]", " BODY.PEEK[TEXT]", " (ENVELOPE BODY)")
	case 12:
		return oneOf(r, "EXPUNGE", "CLOSE", "UNSELECT", "LOGOUT")
	case 13:
		return "IDLE"
	case 14:
		return oneOf(r, `LIST "" *`, "STATUS "+box+" (MESSAGES UIDNEXT)", "SEARCH ALL", "FROB", "APPEND "+box+" {3}", "LOGIN {9}")
	}
	return "NOOP"
}

func someRealRules(r *rand.Rand) api.Rules {
	rules := someRules()
	rules.Quota = oneOf(r, api.MaxDisk, 100000, 14000, 9000)
	rules.Validity = oneOf(r, 1, 7, api.MaxNumber-4)
	rules.Uid = oneOf(r, 1, 1, 90, api.MaxNumber-4)
	rules.Number = oneOf(r, 2, 2, 900)
	rules.Every = oneOf(r, 0, 0, 1, 5)
	return rules
}

// someMachineSteps are steps that mostly mean something: they are chosen by how a machine stands that plays them.
func someMachineSteps(t *testing.T, r *rand.Rand, rules api.Rules, count int) []api.Step {
	t.Helper()
	m, err := server.New(rules)
	if err != nil {
		t.Fatal(err)
	}
	isOpen := map[int]bool{}
	var out []api.Step
	for i := range count {
		x := someMachineStep(r, m.Down(), isOpen, i)
		out = append(out, x)
		sent, code := m.Do(x)
		if code == api.OK && (x.Kind == api.StepOpen || x.Kind == api.StepCut) {
			isOpen[x.Conn] = x.Kind == api.StepOpen
		}
		for _, w := range sent {
			isOpen[w.Conn] = !w.Closed
		}
	}
	return out
}

func someMachineStep(r *rand.Rand, isDown bool, isOpen map[int]bool, i int) api.Step {
	conn := 1 + r.IntN(api.MaxConns)
	switch n := r.IntN(40); {
	case n < 3:
		return oneOf(r, open(conn), cut(conn), bytes(conn, ""), start(), open(r.IntN(9)-2), lines(0, "a NOOP"), check(), bytes(conn, strings.Repeat("y", api.MaxPiece+1)))
	case isDown:
		return oneOf(r, start(), start(), plan(), check())
	case n == 3:
		return cut(conn)
	case n == 4:
		return check()
	case n == 5:
		return plan(stopAt(1+r.IntN(5), r.IntN(30), r.IntN(30)), stopAt(r.IntN(4), r.IntN(3), r.IntN(3)))
	case !isOpen[conn]:
		return open(conn)
	case n < 14:
		return lines(conn, fmt.Sprintf("l%d LOGIN u p", i), fmt.Sprintf("s%d SELECT inbox", i))
	case n == 14:
		return bytes(conn, "t NO")
	}
	list := []string{fmt.Sprintf("t%d %s", i, someCommand(r))}
	for range r.IntN(3) {
		list = append(list, oneOf(r, "DONE", fmt.Sprintf("u%d %s", i, someCommand(r))))
	}
	return lines(conn, list...)
}

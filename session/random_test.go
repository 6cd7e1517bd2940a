package session_test

import (
	"fmt"
	"math/rand/v2"
	"slices"
	"strings"
	"testing"

	"postbag/answer"
	"postbag/api"
	"postbag/command"
	"postbag/session"
	"postbag/span"
)

// Pieces of random lines.

func someBox(r *rand.Rand) string {
	if r.IntN(12) == 0 {
		return oneOf(r, "nowhere", "x//y", `"%"`, `""`, "&", "a/", "&AOk", literal("\xff"))
	}
	return oneOf(r, "inbox", "INBOX", "Inbox", "a", "a", "b", "a/c", "&AOk-", `"d e"`, "a/c/d")
}

func someNumber(r *rand.Rand) string {
	if r.IntN(30) == 0 {
		return "4294967295"
	}
	return oneOf(r, "*", "1", "1", "2", "2", "3", "4", fmt.Sprint(1+r.IntN(12)))
}

func someSet(r *rand.Rand) string {
	if r.IntN(4) == 0 {
		return "1:*"
	}
	piece := func() string {
		if r.IntN(2) == 0 {
			return someNumber(r)
		}
		return someNumber(r) + ":" + someNumber(r)
	}
	set := piece()
	for r.IntN(3) == 0 {
		set += "," + piece()
	}
	return set
}

func someFlags(r *rand.Rand) string {
	var flags []string
	for range r.IntN(4) {
		flags = append(flags, oneOf(r, `\Seen`, `\Deleted`, `\Deleted`, `\deleted`, `\Draft`, `\Answered`, `\Flagged`, "k", "K", "Work", "l", "m", "5", "nil", fmt.Sprint("w", r.IntN(12))))
	}
	return "(" + strings.Join(flags, " ") + ")"
}

func someBody(r *rand.Rand) string {
	switch r.IntN(12) {
	case 0:
		return parts
	case 1:
		return strings.Repeat(oneOf(r, "x", "\r\n", "\xff", "Subject: y\r\n"), r.IntN(1000))
	case 2:
		return "Subject: big\r\n\r\n" + strings.Repeat("x", r.IntN(api.MaxLiteral-20))
	case 3:
		return ""
	}
	n := r.IntN(6)
	return fmt.Sprintf("Subject: %s%s\r\nFrom: %s@x\r\nMessage-Id: <%d@x>\r\nReferences: <%d@x>\r\nDate: %d Feb 2026 10:00 +0000\r\n\r\n%s",
		oneOf(r, "", "Re: "), oneOf(r, "a", "b", "c"), oneOf(r, "jo", "al"), n, r.IntN(6), 1+r.IntN(28), strings.Repeat("body\r\n", r.IntN(4)))
}

func someItem(r *rand.Rand) string {
	if r.IntN(2) == 0 {
		return oneOf(r, "FLAGS", "UID", "INTERNALDATE", "RFC822.SIZE", "ENVELOPE", "BODY", "BODYSTRUCTURE", "RFC822.HEADER", "RFC822.TEXT", "RFC822", "MODSEQ")
	}
	section := oneOf(r, "", "HEADER", "TEXT", "1", "2", "2.HEADER", "2.1", "1.MIME", "2.TEXT", "9", "HEADER.FIELDS (subject To)", "HEADER.FIELDS.NOT (from)", "2.HEADER.FIELDS (SUBJECT)")
	partial := oneOf(r, "", "", "<0.10>", "<3.5>", "<90.9999>")
	return oneOf(r, "BODY", "BODY.PEEK", "BODY.PEEK") + "[" + section + "]" + partial
}

func someItems(r *rand.Rand) string {
	switch r.IntN(6) {
	case 0:
		return oneOf(r, "ALL", "FAST", "FULL")
	case 1:
		return "(UID)"
	case 2:
		return "(UID FLAGS)"
	}
	items := []string{someItem(r)}
	for r.IntN(3) > 0 && len(items) < api.MaxItems {
		items = append(items, someItem(r))
	}
	return "(" + strings.Join(items, " ") + ")"
}

func someKey(r *rand.Rand, depth int) string {
	if depth < 3 {
		switch r.IntN(6) {
		case 0:
			return "NOT " + someKey(r, depth+1)
		case 1:
			return "OR " + someKey(r, depth+1) + " " + someKey(r, depth+1)
		case 2:
			return "(" + someKey(r, depth+1) + " " + someKey(r, depth+1) + ")"
		}
	}
	return oneOf(r, "ALL", "ALL", someSet(r), "UID "+someSet(r), "SEEN", "UNSEEN", "DELETED", "RECENT", "NEW", "OLD", "KEYWORD k", "UNKEYWORD Work", "SUBJECT a", "FROM jo", "BODY body", "TEXT x", "LARGER 20", "SMALLER 90",
		"SINCE 1-Feb-2026", "SENTBEFORE 10-Feb-2026", fmt.Sprint("MODSEQ ", r.IntN(40)), `HEADER Message-Id "1"`)
}

func someCharset(r *rand.Rand) string {
	return oneOf(r, "utf-8", "UTF-8", "US-ASCII", "us-ascii", "UTF-8", "x")
}

// someLine is a line that a client may send, without its tag.
func someLine(r *rand.Rand) string {
	uid := oneOf(r, "", "UID ")
	switch r.IntN(40) {
	case 0:
		return oneOf(r, "CAPABILITY", "NAMESPACE", "CHECK", "LOGOUT", "LOGIN u p", "LOGIN u x", "ENABLE x", "ENABLE CONDSTORE", "FROB", "FETCH", "NOOP x")
	case 1:
		return "NOOP"
	case 4:
		return oneOf(r, "SELECT ", "SELECT ", "EXAMINE ") + oneOf(r, "inbox", "a", someBox(r)) + oneOf(r, "", "", " (CONDSTORE)")
	case 7:
		return "CREATE " + oneOf(r, someBox(r), "a/", "b/x/y", "q"+fmt.Sprint(r.IntN(20)))
	case 8:
		return "DELETE " + someBox(r)
	case 9:
		return "RENAME " + someBox(r) + " " + oneOf(r, someBox(r), "z", "b/z", "q"+fmt.Sprint(r.IntN(5)))
	case 10:
		return oneOf(r, "SUBSCRIBE ", "UNSUBSCRIBE ") + someBox(r)
	case 11:
		return oneOf(r, "LIST ", "LSUB ") + oneOf(r, `""`, "a", "inb", "&AOk-") + " " + oneOf(r, "*", "%", `""`, "%/*", "ox", "-")
	case 12, 13:
		items := []string{"MESSAGES", "RECENT", "UIDNEXT", "UIDVALIDITY", "UNSEEN", "HIGHESTMODSEQ"}
		r.Shuffle(len(items), func(i, j int) { items[i], items[j] = items[j], items[i] })
		return "STATUS " + someBox(r) + " (" + strings.Join(items[:1+r.IntN(5)], " ") + ")"
	case 14, 15, 16, 17, 18, 19:
		return "APPEND " + oneOf(r, "inbox", "a", someBox(r)) + oneOf(r, "", " "+someFlags(r)) + oneOf(r, "", ` " 5-Feb-2026 01:02:03 +0130"`) + " " + literal(someBody(r))
	case 20:
		return oneOf(r, "CLOSE", "CLOSE", "UNSELECT")
	case 21, 22:
		return oneOf(r, "EXPUNGE", "UID EXPUNGE "+someSet(r))
	case 23, 24:
		return uid + "SEARCH " + oneOf(r, "", "RETURN () ", "RETURN (MIN ALL) ", "RETURN (COUNT MAX) ") + oneOf(r, "", "", "CHARSET "+someCharset(r)+" ") + someKey(r, 0)
	case 25:
		return uid + "SORT " + oneOf(r, "(DATE)", "(REVERSE SUBJECT SIZE)", "(FROM)") + " " + someCharset(r) + " " + someKey(r, 0)
	case 26:
		return uid + "THREAD " + oneOf(r, "REFERENCES", "ORDEREDSUBJECT") + " " + someCharset(r) + " " + someKey(r, 0)
	case 2, 3, 27, 28, 29, 30:
		return uid + "FETCH " + someSet(r) + " " + someItems(r) + oneOf(r, "", "", "", fmt.Sprintf(" (CHANGEDSINCE %d)", r.IntN(60)))
	case 5, 6, 31, 32, 33, 34:
		return uid + "STORE " + someSet(r) + oneOf(r, " ", " ", fmt.Sprintf(" (UNCHANGEDSINCE %d) ", r.IntN(60))) + oneOf(r, "", "+", "+", "-") + "FLAGS" + oneOf(r, "", ".SILENT") + " " + someFlags(r)
	case 35, 36:
		return uid + "COPY " + someSet(r) + " " + someBox(r)
	case 37, 38:
		return uid + "MOVE " + someSet(r) + " " + someBox(r)
	}
	return "IDLE"
}

func randomRules(r *rand.Rand) api.Rules {
	rules := someRules()
	rules.Quota = oneOf(r, api.MaxDisk, api.MaxDisk, 60000, 20000, 9000)
	rules.Every = oneOf(r, 0, 0, 1, 7)
	rules.Uid = oneOf(r, 1, 1, 1, 50, end-8)
	rules.Validity = oneOf(r, 1, 1, 700, end-3)
	rules.Number = oneOf(r, 2, 2, 2, 900, end-60)
	return rules
}

// row of commands by sessions over one vault, held against slow sessions.
type run struct {
	*house
	*world
	r       *rand.Rand
	clients []*client
	tag     int
	bodies  map[[2]int]string // all that ever was, by validity and uid
	nexts   map[int]int
}

func newRun(t *testing.T, r *rand.Rand, conns int) *run {
	rules := randomRules(r)
	x := &run{house: build(t, conns, rules), world: newWorld(rules, conns), r: r, bodies: map[[2]int]string{}, nexts: map[int]int{}}
	for range conns {
		x.clients = append(x.clients, &client{})
	}
	for _, line := range []string{"LOGIN u p", "CREATE a/c", "CREATE &AOk-", `CREATE "d e"`} {
		x.say(0, "t "+line)
	}
	for range r.IntN(30) {
		x.say(0, "t APPEND "+oneOf(r, "inbox", "inbox", "a")+" "+someFlags(r)+" "+literal(someBody(r)))
	}
	return x
}

// say sends a line: both sessions tell the same, and are the same then.
func (x *run) say(k int, line string) {
	x.t.Helper()
	c := x.conns[k]
	c.reader.Feed(line + "\r\n")
	for {
		in, is := c.reader.Next()
		if !is {
			break
		}
		told := x.house.take(k, in)
		isFull := len(told) > 0 && strings.HasSuffix(told[len(told)-1], "NO "+isFullText)
		want := x.all[k].take(in, isFull)
		x.world.tellIdle(x.all[k])
		if !slices.Equal(told, want) {
			x.t.Fatalf("%q:\n told %q\n not  %q", line, told, want)
		}
		x.clients[k].hear(x, k, in.Command, told)
		for i := range x.conns {
			if !slices.Equal(x.conns[i].heard, x.all[i].heard) {
				x.t.Fatalf("%q: %d heard %q, not %q", line, i, x.conns[i].heard, x.all[i].heard)
			}
			x.clients[i].hear(x, i, api.Command{}, x.conns[i].heard)
			x.conns[i].heard, x.all[i].heard = nil, nil
		}
		x.wantSame(line)
	}
}

func (x *run) wantSame(line string) {
	x.t.Helper()
	if x.house.store().Freeze() != x.world.store.Freeze() {
		x.t.Fatalf("%q: the stores differ", line)
	}
	for i, s := range x.all {
		want := api.SessionSight{State: s.state, Box: s.box, ReadOnly: s.readOnly, Idle: s.idle != ""}
		for _, row := range s.rows {
			if row.told {
				want.Uids = append(want.Uids, row.uid)
			}
		}
		x.house.wantSight(i, want)
	}
	for validity, held := range x.world.held {
		x.house.wantHeld(validity, held)
	}
	x.wantIdentity()
	if x.t.Failed() {
		x.t.Fatal(line)
	}
}

// wantIdentity is P0.4: a validity and a uid never name two messages; UIDNEXT never falls, and is above all uids.
func (x *run) wantIdentity() {
	x.t.Helper()
	for _, box := range x.house.store().Boxes() {
		if box.Next < x.nexts[box.Validity] {
			x.t.Errorf("P0.4: UIDNEXT of %d was %d, is %d", box.Validity, x.nexts[box.Validity], box.Next)
		}
		x.nexts[box.Validity] = box.Next
		mails, _ := x.house.store().Mails(box.Validity)
		for _, m := range mails {
			key := [2]int{box.Validity, m.Uid}
			if was, is := x.bodies[key]; m.Uid >= box.Next || is && was != m.Raw {
				x.t.Errorf("P0.4: %v", key)
			}
			x.bodies[key] = m.Raw
		}
	}
}

// again puts new sessions in the place of one that is over.
func (x *run) again(k int) {
	x.conns[k] = &conn{Session: session.New(x.vault, x.house.rules), reader: command.New()}
	x.all[k] = &slow{w: x.world, state: api.StateFresh}
	x.clients[k] = &client{}
}

func (x *run) step(k int) {
	x.t.Helper()
	x.tag++
	line := fmt.Sprintf("t%d ", x.tag)
	sight := x.conns[k].Sight()
	switch {
	case sight.State == api.StateOver:
		x.again(k)
		return
	case sight.Idle && x.r.IntN(3) > 0:
		line = oneOf(x.r, "DONE", "done", "DONE", "stop")
	case sight.State == api.StateFresh && x.r.IntN(4) > 0:
		line += "LOGIN u p"
	case sight.State == api.StateKnown && x.r.IntN(2) > 0:
		line += oneOf(x.r, "SELECT inbox", "SELECT inbox", "SELECT a", "EXAMINE inbox")
	default:
		line += someLine(x.r)
	}
	if sight.Idle && strings.HasPrefix(line, "t") {
		return // others go on
	}
	if x.r.IntN(300) == 0 {
		x.conns[k].Close()
		x.all[k].leave(api.StateOver)
		x.all[k].idle = ""
		x.clients[k].rows, x.clients[k].isOpen = nil, false
		return
	}
	x.say(k, line)
}

// settle ends every IDLE; behind NOOP all sessions of one mailbox have the same uids (P17.17), which are the mailbox's own.
func (x *run) settle() {
	x.t.Helper()
	for k := range x.conns {
		if x.conns[k].Sight().Idle {
			x.say(k, "DONE")
		}
	}
	seen := map[int][]int{}
	for range 2 {
		for k := range x.conns {
			x.tag++
			x.say(k, fmt.Sprintf("t%d NOOP", x.tag))
			if sight := x.conns[k].Sight(); sight.State == api.StateSelected {
				uids, is := seen[sight.Box]
				if is && !slices.Equal(uids, sight.Uids) || !slices.Equal(sight.Uids, x.house.uidsIn(sight.Box)) {
					x.t.Errorf("P17.17: %v, %v, %v", sight.Uids, uids, x.house.uidsIn(sight.Box))
				}
				seen[sight.Box] = sight.Uids
			}
		}
	}
}

// P17.15 to P17.17: long random rows of commands by two and three sessions over one vault.
func TestRandom(t *testing.T) {
	r := rand.New(rand.NewPCG(17, 15))
	for round := range 80 {
		x := newRun(t, r, 2+round%2)
		for i := range 250 {
			x.step(r.IntN(len(x.conns)))
			if i%80 == 79 {
				x.settle()
			}
		}
		x.settle()
		if t.Failed() {
			return
		}
	}
}

// client knows what it asks and what it is sent, and nothing else (P0.5).
type client struct {
	isOpen bool
	rows   []clientRow
}

type clientRow struct {
	uid   int // 0: not told
	known bool
	flags string // but \Recent
}

// hear takes in what a command brought, or, without one, what came while it idled.
func (c *client) hear(x *run, k int, asked api.Command, told []string) {
	x.t.Helper()
	reader := answer.New()
	opens := asked.Verb == api.VerbSelect || asked.Verb == api.VerbExamine
	for i, line := range told {
		reader.Feed(line + "\r\n")
		a, is := reader.Next()
		if !is || a.Kind == api.AnswerBad {
			x.t.Fatalf("P17.15: %q", line)
		}
		isBad := a.Kind == api.AnswerState && a.Outcome == api.OutBad
		if i == 0 && opens && !isBad {
			c.isOpen, c.rows = false, nil
		}
		c.answer(x, k, asked, a)
		if a.Kind == api.AnswerState && a.Tag != "" {
			c.end(x, k, asked, a.Outcome)
		}
	}
	c.wantPicture(x, k)
}

func (c *client) answer(x *run, k int, asked api.Command, a api.Answer) {
	x.t.Helper()
	switch a.Kind {
	case api.AnswerExists:
		if a.Num < len(c.rows) {
			x.t.Fatalf("P0.5: %d of %d", a.Num, len(c.rows))
		}
		c.rows = append(c.rows, make([]clientRow, a.Num-len(c.rows))...)
	case api.AnswerExpunge:
		c.rows = slices.Delete(c.rows, a.Num-1, a.Num)
	case api.AnswerFetch:
		row := &c.rows[a.Num-1]
		isTold := slices.ContainsFunc(a.Data, func(d api.Datum) bool { return d.Name == "FLAGS" })
		for _, d := range a.Data {
			switch d.Name {
			case "UID":
				if row.uid != 0 && row.uid != d.Value.Num {
					x.t.Fatalf("P0.5: %d is %d, not %d", a.Num, row.uid, d.Value.Num)
				}
				row.uid = d.Value.Num
			case "FLAGS":
				var flags []string
				for _, v := range d.Value.Kids {
					if v.Text != `\Recent` {
						flags = append(flags, v.Text)
					}
				}
				row.known, row.flags = true, strings.Join(flags, " ")
			}
		}
		if row.uid != 0 && isTold && row.flags != x.flagsOf(x.conns[k].Sight().Box, row.uid) {
			x.t.Fatalf("P0.5: %d has %q", row.uid, row.flags)
		}
	}
}

// flagsOf are a message's flags as the mailbox has them.
func (x *run) flagsOf(box, uid int) string {
	mails, _ := x.house.store().Mails(box)
	for _, m := range mails {
		if m.Uid == uid {
			return strings.Join(m.Flags, " ")
		}
	}
	return "it is not there"
}

// end is what a tagged answer says.
func (c *client) end(x *run, k int, asked api.Command, outcome int) {
	x.t.Helper()
	isOk := outcome == api.OutOk
	switch asked.Verb {
	case api.VerbSelect, api.VerbExamine:
		if outcome != api.OutBad {
			c.isOpen = isOk
		}
	case api.VerbClose, api.VerbUnselect, api.VerbLogout:
		if isOk {
			c.isOpen, c.rows = false, nil
		}
	case api.VerbStore:
		for i, row := range c.rows {
			n := i + 1
			if asked.Uid {
				n = row.uid
			}
			hasStar := slices.ContainsFunc(asked.Set, func(p api.Range) bool { return p.From == 0 || p.To == 0 })
			if isOk && asked.Silent && (hasStar || n == 0 || span.Has(asked.Set, n, api.MaxNumber)) {
				c.rows[i].known = false
			}
		}
	case api.VerbNoop:
		for _, row := range c.rows {
			if isOk && row.uid != 0 && row.known && row.flags != x.flagsOf(x.conns[k].Sight().Box, row.uid) {
				x.t.Fatalf("P0.5: behind NOOP %d has %q", row.uid, row.flags)
			}
		}
	}
}

// wantPicture holds the client's picture against the session's.
func (c *client) wantPicture(x *run, k int) {
	x.t.Helper()
	sight := x.conns[k].Sight()
	if c.isOpen != (sight.State == api.StateSelected) || c.isOpen && len(c.rows) != len(sight.Uids) {
		x.t.Fatalf("P0.5: the client has %v, %d rows; %+v", c.isOpen, len(c.rows), sight)
	}
	for i, row := range c.rows {
		if row.uid != 0 && row.uid != sight.Uids[i] {
			x.t.Fatalf("P0.5: %d is %d, not %d", i+1, sight.Uids[i], row.uid)
		}
	}
}

// P0.6: SEARCH, SORT and THREAD find the same messages.
func TestFindingTheSame(t *testing.T) {
	r := rand.New(rand.NewPCG(17, 6))
	for range 30 {
		h := entered(t, 2, someRules())
		for range 1 + r.IntN(12) {
			h.done(1, "a APPEND inbox "+someFlags(r)+" "+literal(someBody(r)))
		}
		h.done(0, "s SELECT inbox")
		for range 2 {
			if uids := h.uidsIn(1); len(uids) > 0 {
				h.commit(h.store().Expunge(1, []int{oneOf(r, uids...)}))
			}
		}
		for range 20 {
			key := someKey(r, 0)
			var found [3][]string
			for i, line := range []string{"a SEARCH " + key, "a SORT (SUBJECT) utf-8 " + key, "a THREAD REFERENCES utf-8 " + key} {
				told := h.say(0, line)[0]
				numbers, _, _ := strings.Cut(told, " (MODSEQ")
				found[i] = strings.FieldsFunc(numbers, func(c rune) bool { return c < '0' || c > '9' })
				slices.Sort(found[i])
			}
			if !slices.Equal(found[0], found[1]) || !slices.Equal(found[0], found[2]) {
				t.Errorf("P0.6: %q: %v", key, found)
			}
		}
	}
}

// P0.7: whoever knows all flags as of a modseq, and is told what changed since, knows all flags.
func TestResync(t *testing.T) {
	r := rand.New(rand.NewPCG(17, 7))
	for range 60 {
		h := entered(t, 2, someRules())
		for range 1 + r.IntN(10) {
			h.done(1, "a APPEND inbox "+someFlags(r)+" {1+}\r\nx")
		}
		h.done(0, "s SELECT inbox (CONDSTORE)")
		known := map[string]string{} // flags by uid
		learn := func(line string) {
			t.Helper()
			for _, told := range h.say(0, line) {
				if uid, rest, is := strings.Cut(told, " FLAGS ("); is && strings.Contains(uid, "UID ") {
					flags, _, _ := strings.Cut(rest, ")")
					known[uid[strings.Index(uid, "UID ")+4:]] = strings.TrimSpace(strings.TrimSuffix(flags, `\Recent`))
				}
			}
		}
		learn("f FETCH 1:* (UID FLAGS)")
		modseq := h.store().Last()
		if r.IntN(2) == 0 {
			h.done(0, "u UNSELECT")
		}
		h.done(1, "s SELECT inbox")
		for range r.IntN(15) {
			h.say(1, "a "+oneOf(r, "UID STORE "+someSet(r)+" FLAGS "+someFlags(r), "UID STORE "+someSet(r)+" -FLAGS.SILENT "+someFlags(r), "APPEND inbox "+someFlags(r)+" {1+}\r\ny", "EXPUNGE", "UID COPY "+someSet(r)+" inbox", "UID FETCH "+someSet(r)+" BODY[]"))
		}
		if h.conns[0].Sight().State == api.StateKnown {
			h.done(0, "s SELECT inbox (CONDSTORE)")
		}
		inView := h.conns[0].Sight().Uids
		learn(fmt.Sprintf("f UID FETCH 1:* (FLAGS) (CHANGEDSINCE %d)", modseq))
		mails, _ := h.store().Mails(1)
		for _, m := range mails {
			flags, is := known[fmt.Sprint(m.Uid)]
			if slices.Contains(inView, m.Uid) && (!is || flags != strings.Join(m.Flags, " ")) {
				t.Errorf("P0.7: %d has %q, not %q", m.Uid, m.Flags, flags)
			}
		}
	}
}

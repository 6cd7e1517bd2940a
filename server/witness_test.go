package server_test

import (
	"slices"
	"strings"
	"testing"

	"postbag/api"
	"postbag/span"
)

// witness knows what clients ask and are sent, over all starts: it holds the promises of the whole that can be seen from there.
type witness struct {
	t       *testing.T
	clients map[int]*client
	bodies  map[[2]int]string // by validity and uid: all that was ever told or kept (P0.4)
	uids    map[int]int       // by validity: the greatest uid that was told
	nexts   map[int]int       // by validity: the greatest UIDNEXT that was told
	newest  int               // the greatest validity that was told or kept
	settled int               // and what it was behind the last step
}

func newWitness(t *testing.T) *witness {
	return &witness{t, map[int]*client{}, map[[2]int]string{}, map[int]int{}, map[int]int{}, 0, 0}
}

// client is what one client knows (P0.5).
type client struct {
	isOpen   bool // it has a mailbox selected
	validity int
	next     int // the UIDNEXT that was told last
	rows     []row
	idle     string      // the tag of an IDLE that is on
	ended    bool        // the last thing of this step was the end of an IDLE
	asked    api.Command // the last one
	isNoop   bool        // the last thing of this step was a NOOP that was answered OK
}

type row struct {
	uid   int // 0: not told
	known bool
	flags string // but \Recent
}

// turn begins a step: what others have done in between is news behind an IDLE that has ended, and behind NOOP.
func (w *witness) turn() {
	for _, c := range w.clients {
		c.ended, c.isNoop = false, false
	}
}

// hear takes in what one thing brought one connection.
func (w *witness) hear(d deed) {
	w.t.Helper()
	c := w.clients[d.conn]
	if c == nil {
		c = &client{}
		w.clients[d.conn] = c
	}
	answers := readAll(w.t, d.word.Text)
	w.echo(c, d, answers)
	if d.input.Kind != 0 {
		c.asked = d.input.Command
	}
	c.isNoop = c.asked.Verb == api.VerbNoop && d.input.Kind != 0
	opens := d.input.Kind == api.InCommand && (c.asked.Verb == api.VerbSelect || c.asked.Verb == api.VerbExamine)
	for k, a := range answers {
		if k == 0 && opens && a.Outcome != api.OutBad {
			*c = client{asked: c.asked}
		}
		w.learn(c, a)
		if d.input.Kind == api.InCommand && a.Kind == api.AnswerState && a.Tag != "" {
			w.end(c, a)
		}
	}
	if d.word.Closed {
		delete(w.clients, d.conn)
	}
}

// echo is P0.10, and of P0.12 that nothing is left to tell behind IDLE.
func (w *witness) echo(c *client, d deed, answers []api.Answer) {
	w.t.Helper()
	var tags []string
	bads, goOns, byes := 0, 0, 0
	for _, a := range answers {
		switch {
		case a.Kind == api.AnswerState && a.Tag != "":
			tags = append(tags, a.Tag)
		case a.Kind == api.AnswerState && a.Outcome == api.OutBad:
			bads++
		case a.Kind == api.AnswerState && a.Outcome == api.OutBye:
			byes++
		case a.Kind == api.AnswerContinue:
			goOns++
		}
	}
	hasEnd := len(answers) > 0 && answers[len(answers)-1].Tag != "" && answers[len(answers)-1].Kind == api.AnswerState
	only := func(tag string) bool {
		return len(tags) == 1 && tags[0] == tag && hasEnd && bads == 0 && goOns == 0
	}
	wasIdle, wasEnded := c.idle, c.ended
	c.idle, c.ended = "", wasIdle != ""
	tag := d.input.Command.Tag
	isRight := false
	switch {
	case d.input.Kind == 0: // its greeting, its end, or news while it idles
		isRight = len(tags)+bads+goOns+byes == 0
		c.idle, c.ended = wasIdle, false
	case wasIdle != "":
		isRight = only(wasIdle) && len(answers) == 1 && (answers[0].Outcome == api.OutOk) == (d.input.Kind == api.InDone)
	case d.input.Kind == api.InContinue:
		isRight = len(answers) == 1 && goOns == 1
	case d.input.Kind == api.InBad && d.input.Why == api.ErrNumber:
		isRight = len(answers) == 1 && byes == 1 && d.word.Closed
	case d.input.Kind == api.InBad && d.input.Tag == "":
		isRight = len(answers) == 1 && bads == 1
	case d.input.Kind == api.InBad:
		isRight = only(d.input.Tag) && len(answers) == 1
	case d.input.Command.Verb == api.VerbIdle && goOns == 1:
		isRight = len(tags)+bads == 0 && answers[0].Kind == api.AnswerContinue
		c.idle = tag
	default:
		isRight = only(tag) && d.word.Closed == (d.input.Command.Verb == api.VerbLogout)
	}
	if !isRight {
		w.t.Fatalf("P0.10: %+v, with %q on, brings %q", d.input, wasIdle, d.word.Text)
	}
	if wasEnded && d.input.Command.Verb == api.VerbNoop && len(answers) != 1 {
		w.t.Fatalf("P0.12: NOOP right behind IDLE tells %q", d.word.Text)
	}
}

// learn takes in an answer.
func (w *witness) learn(c *client, a api.Answer) {
	w.t.Helper()
	switch a.Kind {
	case api.AnswerExists:
		if a.Num < len(c.rows) {
			w.t.Fatalf("P0.5: %d of %d", a.Num, len(c.rows))
		}
		c.rows = append(c.rows, make([]row, a.Num-len(c.rows))...)
	case api.AnswerExpunge:
		if a.Num > len(c.rows) {
			w.t.Fatalf("P0.5: the message %d of %d goes", a.Num, len(c.rows))
		}
		c.rows = slices.Delete(c.rows, a.Num-1, a.Num)
	case api.AnswerFetch:
		w.fetch(c, a)
	case api.AnswerState:
		w.code(c, a)
	case api.AnswerStatus:
		told := map[string]int{}
		for k := 0; k < len(a.Pairs); k += 2 {
			told[a.Pairs[k].Text] = a.Pairs[k+1].Num
		}
		if told["UIDNEXT"] > 0 && told["UIDVALIDITY"] > 0 {
			w.next(told["UIDVALIDITY"], told["UIDNEXT"])
		}
	}
}

func (w *witness) fetch(c *client, a api.Answer) {
	w.t.Helper()
	if a.Num > len(c.rows) {
		w.t.Fatalf("P0.5: the message %d of %d", a.Num, len(c.rows))
	}
	r := &c.rows[a.Num-1]
	for _, d := range a.Data {
		switch d.Name {
		case "UID":
			if r.uid != 0 && r.uid != d.Value.Num {
				w.t.Fatalf("P0.5: %d is %d, not %d", a.Num, r.uid, d.Value.Num)
			}
			r.uid = d.Value.Num
			w.told(c.validity, r.uid)
		case "FLAGS":
			var flags []string
			for _, v := range d.Value.Kids {
				if v.Text != `\Recent` {
					flags = append(flags, v.Text)
				}
			}
			r.known, r.flags = true, strings.Join(flags, " ")
		case "BODY[]":
			if r.uid != 0 {
				w.body(c.validity, r.uid, d.Value.Text)
			}
		}
	}
}

// code takes in what a code tells of uids and validities.
func (w *witness) code(c *client, a api.Answer) {
	w.t.Helper()
	number := func(k int) int { return a.Args[k].Num }
	each := func(validity int, text string) {
		set, _ := span.Parse(text)
		for _, p := range set {
			for uid := p.From; uid <= max(p.From, p.To); uid++ {
				w.told(validity, uid)
			}
		}
	}
	switch a.Code {
	case api.CodeNext:
		c.next = number(0)
	case api.CodeValidity:
		c.validity = number(0)
		w.next(c.validity, c.next)
	case api.CodeAppend:
		each(number(0), a.Args[1].Text)
	case api.CodeCopy:
		each(number(0), a.Args[2].Text)
	}
}

func (w *witness) told(validity, uid int) {
	w.t.Helper()
	w.newest = max(w.newest, validity)
	w.uids[validity] = max(w.uids[validity], uid)
}

func (w *witness) next(validity, next int) {
	w.t.Helper()
	if next < w.nexts[validity] || next <= w.uids[validity] {
		w.t.Fatalf("P0.4: of %d the UIDNEXT %d is told behind %d and the uid %d", validity, next, w.nexts[validity], w.uids[validity])
	}
	w.newest = max(w.newest, validity)
	w.nexts[validity] = next
}

func (w *witness) body(validity, uid int, text string) {
	w.t.Helper()
	key := [2]int{validity, uid}
	if was, is := w.bodies[key]; is && was != text {
		w.t.Fatalf("P0.4: %v is %q, and was %q", key, text, was)
	}
	w.bodies[key] = text
}

// end takes in a tagged answer.
func (w *witness) end(c *client, a api.Answer) {
	isOk := a.Outcome == api.OutOk
	switch c.asked.Verb {
	case api.VerbSelect, api.VerbExamine:
		if a.Outcome != api.OutBad {
			c.isOpen = isOk
		}
	case api.VerbClose, api.VerbUnselect, api.VerbLogout:
		if isOk {
			c.isOpen, c.rows = false, nil
		}
	case api.VerbStore:
		for k, r := range c.rows {
			n := k + 1
			if c.asked.Uid {
				n = r.uid
			}
			hasStar := slices.ContainsFunc(c.asked.Set, func(p api.Range) bool { return p.From == 0 || p.To == 0 })
			if isOk && c.asked.Silent && (hasStar || n == 0 || span.Has(c.asked.Set, n, api.MaxNumber)) {
				c.rows[k].known = false
			}
		}
	case api.VerbNoop:
		c.isNoop = isOk
	}
}

// look holds what is known against the machine, behind a step: actor is the connection whose step it was.
func (w *witness) look(m *machine, open []int, actor int) {
	w.t.Helper()
	for k, sight := range m.Sessions() {
		c := w.clients[open[k]]
		isOpen := sight.State == api.StateSelected
		if c.isOpen != isOpen || isOpen && (len(c.rows) != len(sight.Uids) || c.validity != sight.Box) || (c.idle != "") != sight.Idle {
			w.t.Fatalf("P0.5: client %d has %+v; %+v", open[k], *c, sight)
		}
		mails, _ := m.Store().Mails(sight.Box)
		var uids []int
		flags := map[int]string{}
		for _, mail := range mails {
			uids = append(uids, mail.Uid)
			flags[mail.Uid] = strings.Join(mail.Flags, " ")
		}
		isFresh := sight.Idle || open[k] == actor && c.isNoop
		if isOpen && isFresh && !slices.Equal(uids, sight.Uids) {
			w.t.Fatalf("P0.12: %d is told of %v, and there are %v", open[k], sight.Uids, uids)
		}
		for n, r := range c.rows {
			if r.uid != 0 && r.uid != sight.Uids[n] {
				w.t.Fatalf("P0.5: of %d the message %d is %d, not %d", open[k], n+1, sight.Uids[n], r.uid)
			}
			if isFresh && r.known && flags[sight.Uids[n]] != r.flags {
				w.t.Fatalf("P0.5, P0.12: %d believes that %d has %q, not %q", open[k], sight.Uids[n], r.flags, flags[sight.Uids[n]])
			}
		}
	}
	w.keep(m)
}

// keep is P0.4 of all that there is.
func (w *witness) keep(m *machine) {
	w.t.Helper()
	for _, box := range m.Store().Boxes() {
		if _, is := w.nexts[box.Validity]; !is && box.Validity <= w.settled {
			w.t.Fatalf("P0.4: %q is %d, and %d was there", box.Name, box.Validity, w.settled)
		}
		w.next(box.Validity, box.Next)
		mails, _ := m.Store().Mails(box.Validity)
		for _, mail := range mails {
			w.told(box.Validity, mail.Uid)
			w.body(box.Validity, mail.Uid, mail.Raw)
		}
	}
	w.settled = w.newest
}

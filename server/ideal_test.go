package server_test

import (
	"errors"
	"slices"
	"testing"

	"postbag/answer"
	"postbag/api"
	"postbag/command"
	"postbag/disk"
	"postbag/session"
	"postbag/store"
	"postbag/vault"
)

// ideal is a machine of another make, over a disk that never stops. Bytes come to it one by one, nothing of it is a goroutine. Where the real one stops, it plays the command under way to its end, to learn which event that would have brought. At a start it holds the real one's store against all events that were ever committed (P0.3), and goes on with a copy of its files.
type ideal struct {
	t        *testing.T
	rules    api.Rules
	disk     *disk.Disk
	vault    *vault.Vault
	isDown   bool
	talks    map[int]*talk
	events   []api.Event // in the order in which they were committed, over all starts
	underWay []api.Event // at most one: that of the command with which the machine stopped
	fresh    int         // how many events the last thing that was taken has brought
}

type talk struct {
	session *session.Session
	reader  *command.Reader
}

// deed is what one thing brought one connection: an input of its own, or another one's event.
type deed struct {
	conn  int
	input api.Input // its Kind is 0: another one's event
	word  api.Sent
}

func newIdeal(t *testing.T, rules api.Rules) *ideal {
	i := &ideal{t: t, rules: rules}
	i.adopt(nil, nil)
	return i
}

// adopt begins anew with files.
func (i *ideal) adopt(names, files []string) {
	i.t.Helper()
	var err error
	if i.disk, err = disk.New(i.rules.Quota); err != nil {
		i.t.Fatal(err)
	}
	for k, name := range names {
		if err := errors.Join(i.disk.Append(name, files[k]), i.disk.Sync(name)); err != nil {
			i.t.Fatal(err)
		}
	}
	if i.vault, err = vault.Open(i.disk, i.rules); err != nil {
		i.t.Fatalf("P0.3: %v", err)
	}
	i.isDown, i.talks, i.underWay = false, map[int]*talk{}, nil
}

// fold is the store behind events.
func (i *ideal) fold(events ...api.Event) string {
	i.t.Helper()
	s, _ := store.New(i.rules.Validity, i.rules.Uid, i.rules.Number)
	for _, e := range events {
		if code := s.Apply(e); code != api.OK {
			i.t.Fatalf("P0.3: event %d: %d", e.Number, code)
		}
	}
	return s.Freeze()
}

// code is what a step is refused with.
func (i *ideal) code(x api.Step) api.Errno {
	isOneOf := func(kinds ...int) bool { return slices.Contains(kinds, x.Kind) }
	_, isOpen := i.talks[x.Conn]
	if len(x.Bytes) > 32768 || len(x.Stops) > 400 {
		return api.ErrLong
	}
	if i.isDown && !isOneOf(api.StepPlan, api.StepStart) || !i.isDown && isOneOf(api.StepStart) || !isOneOf(allKinds...) {
		return api.ErrStep
	}
	if isOneOf(api.StepOpen) && (isOpen || x.Conn < 1 || x.Conn > 4) || isOneOf(api.StepBytes, api.StepCut) && !isOpen {
		return api.ErrConn
	}
	return api.OK
}

// open are the numbers of the connections, rising.
func (i *ideal) open() []int {
	var out []int
	for conn := range i.talks {
		out = append(out, conn)
	}
	slices.Sort(out)
	return out
}

func word(conn int, answers []api.Answer, isOver bool) api.Sent {
	text := ""
	for _, a := range answers {
		line, _ := answer.Print(a)
		text += line
	}
	return api.Sent{Conn: conn, Text: text, Closed: isOver}
}

// play is what a step brings; sent is what the real machine has sent, which says where it stopped, if it did.
func (i *ideal) play(x api.Step, sent []api.Sent, stopped bool) []deed {
	i.t.Helper()
	at := slices.IndexFunc(sent, func(w api.Sent) bool { return w.Text == "" })
	if at < 0 {
		at = len(sent)
	}
	if !stopped {
		at = -1
	}
	var out []deed
	switch x.Kind {
	case api.StepOpen:
		c := &talk{session.New(i.vault, i.rules), command.New()}
		i.talks[x.Conn] = c
		out = append(out, deed{conn: x.Conn, word: word(x.Conn, c.session.Greet(), false)})
	case api.StepBytes:
		out = i.read(x.Conn, x.Bytes, at)
	case api.StepCut:
		i.talks[x.Conn].session.Close()
		delete(i.talks, x.Conn)
	case api.StepCheck:
		if !stopped {
			i.vault.Checkpoint()
		}
	}
	if !stopped || x.Kind == api.StepPlan || x.Kind == api.StepStart {
		return out
	}
	for _, conn := range i.open() {
		out = append(out, deed{conn: conn, word: api.Sent{Conn: conn, Closed: true}})
	}
	i.isDown, i.talks = true, map[int]*talk{}
	return out
}

// read takes bytes one by one; at so many words the real machine has stopped (-1: it has not).
func (i *ideal) read(conn int, text string, at int) []deed {
	i.t.Helper()
	var out []deed
	c := i.talks[conn]
	for k := range len(text) {
		c.reader.Feed(text[k : k+1])
		for in, is := c.reader.Next(); is; in, is = c.reader.Next() {
			isLast := len(out) == at
			out = append(out, i.take(conn, in)...)
			if isLast {
				i.underWay = slices.Clone(i.events[len(i.events)-i.fresh:])
				i.events = i.events[:len(i.events)-i.fresh]
				return out[:at]
			}
			if i.talks[conn] == nil {
				return out
			}
		}
	}
	if at >= 0 {
		i.t.Fatalf("P18.8: it stopped, though nothing was under way behind %d words", len(out))
	}
	return out
}

func (i *ideal) take(conn int, in api.Input) []deed {
	i.t.Helper()
	c, last := i.talks[conn], i.vault.Store().Last()
	answers, err := c.session.Take(in)
	if err != nil {
		i.t.Fatal(err)
	}
	isOver := c.session.Sight().State == api.StateOver
	out := []deed{{conn, in, word(conn, answers, isOver)}}
	if isOver {
		delete(i.talks, conn)
	}
	c.reader.Idle(c.session.Sight().Idle)
	events := i.vault.Since(last)
	i.fresh = len(events)
	i.events = append(i.events, events...)
	for _, e := range events {
		for _, other := range i.open() {
			if other == conn {
				continue
			}
			if w := word(other, i.talks[other].session.Hear(e), false); w.Text != "" {
				out = append(out, deed{conn: other, word: w})
			}
		}
	}
	return out
}

// begin holds what the real machine has behind a start against what was committed, and goes on from it.
func (i *ideal) begin(m *machine) {
	i.t.Helper()
	frozen := m.Store().Freeze()
	switch frozen {
	case i.fold(i.events...):
	case i.fold(slices.Concat(i.events, i.underWay)...):
		i.events = append(i.events, i.underWay...)
	default:
		i.t.Fatalf("P0.3: behind %d events, and %d under way, another store", len(i.events), len(i.underWay))
	}
	i.adopt(m.Files())
}

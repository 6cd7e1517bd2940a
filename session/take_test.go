package session_test

import (
	"math/rand/v2"
	"reflect"
	"slices"
	"strings"
	"testing"

	"postbag/answer"
	"postbag/api"
	"postbag/session"
	"postbag/vault"
)

var allStates = []int{api.StateFresh, api.StateKnown, api.StateSelected, api.StateOver}

// at is a house whose first connection is in a state; with idle an IDLE with the tag i is on.
func at(t *testing.T, state int, idle bool) *house {
	t.Helper()
	h := build(t, 1, someRules())
	if state != api.StateFresh {
		h.done(0, "l LOGIN u p")
	}
	if state == api.StateSelected {
		h.done(0, "s SELECT inbox")
	}
	if state == api.StateOver {
		h.conns[0].Close()
	}
	if idle {
		h.done(0, "i IDLE")
	}
	if got := h.conns[0].Sight(); got.State != state || got.Idle != idle {
		t.Fatalf("%+v", got)
	}
	return h
}

// P17.1: the greeting in every state, asked again.
func TestGreet(t *testing.T) {
	for _, state := range allStates {
		for range 2 {
			h := at(t, state, false)
			for range 3 {
				if got := h.lines(h.conns[0].Greet()); !slices.Equal(got, []string{"* OK [CAPABILITY " + caps + "] postbag is ready"}) {
					t.Errorf("P17.1: in %d: %q", state, got)
				}
			}
			if h.conns[0].Sight().State != state {
				t.Errorf("P17.1: Greet has changed the state %d", state)
			}
		}
	}
	for _, state := range []int{api.StateKnown, api.StateSelected} {
		if got := at(t, state, true).conns[0].Greet(); len(got) != 1 || got[0].Outcome != api.OutOk {
			t.Errorf("P17.1: %+v", got)
		}
	}
}

// P17.1: a new session is fresh, CONDSTORE is off; its greeting is plain data.
func TestNew(t *testing.T) {
	h := build(t, 2, someRules())
	h.wantSight(0, api.SessionSight{State: api.StateFresh})
	want := api.Answer{Kind: api.AnswerState, Outcome: api.OutOk, Code: api.CodeCapability, Text: "postbag is ready"}
	for name := range strings.SplitSeq(caps, " ") {
		want.Args = append(want.Args, api.Value{Kind: api.ValueAtom, Text: name})
	}
	if got := h.conns[0].Greet(); len(got) != 1 || !reflect.DeepEqual(got[0], want) {
		t.Errorf("P17.1: %+v", got)
	}
	h.done(0, "a LOGIN u p", "a SELECT inbox")
	h.add(0, "inbox", "", "x")
	h.want(0, "b STORE 1 FLAGS (k)", `* 1 FETCH (FLAGS (k \Recent))`, "b OK STORE done")
	h.wantSight(1, api.SessionSight{State: api.StateFresh})
}

func bads() map[api.Errno]string {
	return map[api.Errno]string{
		api.ErrTag: "no tag", api.ErrLine: "no line", api.ErrLiteral: "no literal", api.ErrCommand: "no command",
	}
}

// P17.2: what is no command, in every state.
func TestInputs(t *testing.T) {
	for _, state := range []int{api.StateFresh, api.StateKnown, api.StateSelected} {
		h := at(t, state, false)
		sight := h.conns[0].Sight()
		told := func(in api.Input, want string) {
			t.Helper()
			if got := h.take(0, in); !slices.Equal(got, []string{want}) {
				t.Errorf("P17.2: %+v in %d: %q, not %q", in, state, got, want)
			}
			h.wantSight(0, sight)
		}
		told(api.Input{Kind: api.InContinue}, "+ go ahead")
		told(api.Input{Kind: api.InDone}, "* BAD no command")
		for why, text := range bads() {
			told(api.Input{Kind: api.InBad, Why: why}, "* BAD "+text)
			told(api.Input{Kind: api.InBad, Why: why, Tag: "t1"}, "t1 BAD "+text)
		}
	}
}

// P17.2: a literal that is far too long ends the connection, with or without a tag; a mailbox is left.
func TestTooMuch(t *testing.T) {
	for _, state := range []int{api.StateFresh, api.StateKnown, api.StateSelected} {
		for _, tag := range []string{"", "t"} {
			h := at(t, state, false)
			if got := h.take(0, api.Input{Kind: api.InBad, Why: api.ErrNumber, Tag: tag}); !slices.Equal(got, []string{"* BYE that is too much"}) {
				t.Errorf("P17.2: %q", got)
			}
			h.wantSight(0, api.SessionSight{State: api.StateOver})
			h.wantHeld(1, 0)
			if got := h.take(0, api.Input{Kind: api.InContinue}); len(got) != 0 {
				t.Errorf("P17.2: over: %q", got)
			}
		}
	}
	h := at(t, api.StateSelected, false)
	h.want(0, "a CREATE {4294967296+}", "* BYE that is too much")
	h.wantHeld(1, 0)
}

// anyInputs are inputs of all kinds, such as readers tell.
func anyInputs(t *testing.T) []api.Input {
	ins := []api.Input{{Kind: api.InContinue}, {Kind: api.InDone}}
	for _, why := range []api.Errno{api.ErrTag, api.ErrLine, api.ErrLiteral, api.ErrCommand, api.ErrNumber} {
		ins = append(ins, api.Input{Kind: api.InBad, Why: why}, api.Input{Kind: api.InBad, Why: why, Tag: "t"})
	}
	for _, line := range everyLine() {
		ins = append(ins, command1(t, line.text, line.literals...))
	}
	return ins
}

// P17.2: while IDLE is on, the end of it, and everything else.
func TestIdleEnds(t *testing.T) {
	for _, state := range []int{api.StateKnown, api.StateSelected} {
		for _, in := range anyInputs(t) {
			h := at(t, state, true)
			sight := h.conns[0].Sight()
			sight.Idle = false
			frozen := h.store().Freeze()
			want := "i BAD IDLE is over"
			if in.Kind == api.InDone {
				want = "i OK IDLE done"
			}
			if got := h.take(0, in); !slices.Equal(got, []string{want}) || frozen != h.store().Freeze() {
				t.Errorf("P17.2: %+v: %q, not %q", in, got, want)
			}
			h.wantSight(0, sight)
			if state == api.StateSelected {
				h.wantHeld(1, 1)
			}
			h.want(0, "n NOOP", "n OK NOOP done")
		}
	}
}

// P17.2: in the state over nothing is told, however the session came there.
func TestOver(t *testing.T) {
	ends := map[string]func(h *house){
		"LOGOUT": func(h *house) { h.done(0, "x LOGOUT") },
		"Close":  func(h *house) { h.conns[0].Close() },
		"BYE":    func(h *house) { h.take(0, api.Input{Kind: api.InBad, Why: api.ErrNumber}) },
	}
	for name, ends := range ends {
		h := at(t, api.StateSelected, false)
		ends(h)
		frozen := h.store().Freeze()
		for _, in := range anyInputs(t) {
			if got := h.take(0, in); len(got) != 0 || frozen != h.store().Freeze() {
				t.Errorf("P17.2: behind %s: %+v: %q", name, in, got)
			}
			h.wantSight(0, api.SessionSight{State: api.StateOver})
		}
		h.wantHeld(1, 0)
	}
}

// P17.2: whatever kind an input has, the call ends.
func TestOtherInputs(t *testing.T) {
	r := rand.New(rand.NewPCG(17, 2))
	for range 3000 {
		h := at(t, oneOf(r, allStates...), false)
		if r.IntN(2) == 0 {
			h.commit(h.store().Add("INBOX", nil, now, parts))
			h.conns[0].Take(command1(t, "s SELECT inbox"))
		}
		in := api.Input{Kind: oneOf(r, api.InCommand, api.InCommand, r.IntN(12)-4), Tag: oneOf(r, "", "t", "a b", "\r\n"), Why: api.Errno(r.IntN(200) - 5)}
		in.Command = oddCommand(r)
		told, err := h.conns[0].Take(in)
		if err != nil {
			t.Fatalf("%+v: %+v, %v", in, told, err)
		}
		h.conns[0].Hear(api.Event{Kind: r.IntN(14) - 1, Box: r.IntN(3), First: r.IntN(4), Uids: []int{1, 0, -5}})
		h.conns[0].Sight()
	}
}

// W1: a key may be as deep as it likes; what it asks for is found.
func TestDeepKey(t *testing.T) {
	h := twoMails(t)
	key := api.Key{Kind: api.KeyModseq, Num: 1}
	for range 1 << 16 {
		key = api.Key{Kind: api.KeyNot, Kids: []api.Key{key}}
	}
	h.want(0, "a ENABLE x", "* ENABLED", "a OK ENABLE done")
	in := api.Input{Kind: api.InCommand, Command: api.Command{Tag: "t", Verb: api.VerbSearch, Key: key}}
	if got := h.take(0, in); !slices.Equal(got, []string{"* SEARCH", "t OK SEARCH done"}) {
		t.Errorf("W1: %q", got)
	}
	if !h.isOn(0) {
		t.Error("P17.3: CONDSTORE is off")
	}
}

// oddCommand is a command that no reader tells.
func oddCommand(r *rand.Rand) api.Command {
	odd := func() int { return oneOf(r, -1<<63, -1, 0, 1, 2, 3, 5, 70, api.MaxNumber, 1<<63-1) }
	key := api.Key{Kind: r.IntN(32) - 2, Num: odd(), Text: oneOf(r, "", "x"), Set: []api.Range{{From: odd(), To: odd()}}}
	for range r.IntN(4) {
		key = api.Key{Kind: r.IntN(6), Kids: []api.Key{key, key}}
	}
	items := make([]api.Item, r.IntN(4))
	for i := range items {
		items[i] = api.Item{Kind: r.IntN(16) - 2, Partial: r.IntN(2) == 0, From: odd(), N: odd(), Section: api.Section{Kind: r.IntN(9) - 2, Place: oneOf(r, "", "1", "x", "1..2")}}
	}
	return api.Command{
		Tag: oneOf(r, "", "t", "a b"), Verb: r.IntN(36) - 3, Uid: r.IntN(2) == 0, Name: oneOf(r, "inbox", "x", "", "\xff", "x/"), To: oneOf(r, "y", "", "INBOX"),
		User: "u", Pass: "p", Ref: "", Pattern: oneOf(r, "", "*", "%\x00"), Set: []api.Range{{From: odd(), To: odd()}}, Items: items, Mode: odd(),
		Silent: r.IntN(2) == 0, Flags: []string{oneOf(r, `\Seen`, "", `\x`, "a b")}, Unchanged: api.Text{Is: r.IntN(2) == 0, S: oneOf(r, "", "5", "-7", "99999999999999999999", "x")},
		Changed: api.Text{Is: r.IntN(2) == 0, S: oneOf(r, "", "5", "-7", "99999999999999999999", "x")}, Key: key, By: []api.By{{Kind: odd()}}, Algorithm: odd(),
		Returns: []int{odd()}, Returning: r.IntN(2) == 0, Dated: r.IntN(2) == 0, Date: api.Moment{Year: odd()}, Status: []int{odd(), 2}, Names: []string{"condstore", ""},
	}
}

// P17.14: a nil and a zero Session, in every call.
func TestNothing(t *testing.T) {
	for name, s := range map[string]*session.Session{"nil": nil, "zero": {}} {
		held := func(what string) {
			t.Helper()
			if got := s.Sight(); !reflect.DeepEqual(got, api.SessionSight{State: api.StateOver}) {
				t.Errorf("P17.14: %s behind %s: %+v", name, what, got)
			}
		}
		held("nothing")
		if got := s.Greet(); len(got) != 0 {
			t.Errorf("P17.14: %s: Greet: %+v", name, got)
		}
		for _, in := range append(anyInputs(t), api.Input{}) {
			if got, err := s.Take(in); len(got) != 0 || err != nil {
				t.Errorf("P17.14: %s: Take: %+v, %v", name, got, err)
			}
		}
		held("Take")
		if got := s.Hear(api.Event{Number: 2, Kind: api.EventAdd, Box: 1, First: 1}); len(got) != 0 {
			t.Errorf("P17.14: %s: Hear: %+v", name, got)
		}
		s.Close()
		s.Close()
		held("Close")
		if got := s.Greet(); len(got) != 0 {
			t.Errorf("P17.14: %s: Greet behind Close: %+v", name, got)
		}
	}
}

// P17.14: over a nil or zero Vault there is a store without a mailbox, in every call.
func TestNoVault(t *testing.T) {
	want := map[string]string{
		"SELECT": isNone, "EXAMINE": isNone, "CREATE": tooMuch, "DELETE": isNone, "RENAME": isNone, "SUBSCRIBE": isNone,
		"UNSUBSCRIBE": isNone, "STATUS": isNone, "APPEND": tryIt,
	}
	for name, v := range map[string]*vault.Vault{"nil": nil, "zero": {}} {
		for _, line := range everyLine() {
			s := session.New(v, someRules())
			take := func(text string, literals ...string) string {
				told, err := s.Take(command1(t, text, literals...))
				if err != nil || len(told) == 0 {
					t.Fatalf("P17.14: %s: %q: %+v, %v", name, text, told, err)
				}
				line, code := answer.Print(told[len(told)-1])
				if code != api.OK {
					t.Errorf("P17.14: %s: %q: %+v", name, text, told)
				}
				return strings.TrimSuffix(line, "\r\n")
			}
			if got := take("l LOGIN u p"); got != "l OK LOGIN done" {
				t.Errorf("P17.14: %s: %q", name, got)
			}
			if got := take("l STATUS inbox (RECENT HIGHESTMODSEQ)"); got != "l "+isNone {
				t.Errorf("P17.14: %s: %q", name, got)
			}
			got := take(line.text, line.literals...)
			if refused, is := want[line.verb]; is && got != "t "+refused {
				t.Errorf("P17.14: %s: %q: %q", name, line.text, got)
			}
			if line.states == "selected" && got != "t "+notNow {
				t.Errorf("P17.14: %s: %q: %q", name, line.text, got)
			}
			s.Hear(api.Event{Number: 2, Kind: api.EventAdd, Box: 1, First: 1})
			s.Greet()
			s.Close()
			if got := s.Sight(); got.State != api.StateOver {
				t.Errorf("P17.14: %s: %+v", name, got)
			}
		}
	}
	s := session.New(nil, someRules())
	if got, _ := answer.Print(s.Greet()[0]); !strings.HasPrefix(got, "* OK [CAPABILITY ") {
		t.Errorf("P17.14: %q", got)
	}
	s.Take(command1(t, "l LOGIN u p"))
	for _, text := range []string{`a CREATE "%"`, `a APPEND "%" {1}`, `a RENAME x inbox`} {
		literals := []string{"x"}[:strings.Count(text, "{")]
		if told, err := s.Take(command1(t, text, literals...)); err != nil || len(told) != 1 || told[0].Code != api.CodeCannot {
			t.Errorf("P17.14: %q: %+v, %v", text, told, err)
		}
	}
	for _, text := range []string{`a LIST "" *`, `a LSUB "" *`} {
		if told, err := s.Take(command1(t, text)); err != nil || len(told) != 1 || told[0].Outcome != api.OutOk {
			t.Errorf("P17.14: %q: %+v, %v", text, told, err)
		}
	}
}

// P17.14: Close in every state, twice, with and without IDLE; Sight.
func TestClose(t *testing.T) {
	for _, state := range allStates {
		for _, idle := range []bool{false, true} {
			if idle && (state == api.StateFresh || state == api.StateOver) {
				continue
			}
			h := at(t, state, idle)
			other := session.New(h.vault, h.rules)
			other.Take(command1(t, "l LOGIN u p"))
			other.Take(command1(t, "s EXAMINE inbox"))
			want := 1
			if state == api.StateSelected {
				want = 2
			}
			h.wantHeld(1, want)
			for range 2 {
				h.conns[0].Close()
				h.wantSight(0, api.SessionSight{State: api.StateOver})
				h.wantHeld(1, 1)
			}
			h.commit(h.store().Add("INBOX", nil, now, "x"))
			h.wantHeard(0)
			if got := other.Sight(); !reflect.DeepEqual(got, api.SessionSight{State: api.StateSelected, Box: 1, ReadOnly: true}) {
				t.Errorf("P17.14: %+v", got)
			}
		}
	}
}

// P17.14: Sight tells what is selected, and how.
func TestSight(t *testing.T) {
	h := entered(t, 1, someRules())
	h.wantSight(0, api.SessionSight{State: api.StateKnown})
	h.done(0, "a CREATE q")
	h.add(0, "q", "", "x", "y", "z")
	h.done(0, "a EXAMINE q")
	h.wantSight(0, api.SessionSight{State: api.StateSelected, Box: 2, ReadOnly: true, Uids: []int{1, 2, 3}})
	h.done(0, "a SELECT q")
	h.wantSight(0, api.SessionSight{State: api.StateSelected, Box: 2, Uids: []int{1, 2, 3}})
	h.done(0, "i IDLE")
	h.wantSight(0, api.SessionSight{State: api.StateSelected, Box: 2, Idle: true, Uids: []int{1, 2, 3}})
	h.want(0, "done", "i OK IDLE done")
	h.commit(h.store().Expunge(2, []int{2}))
	h.wantSight(0, api.SessionSight{State: api.StateSelected, Box: 2, Uids: []int{1, 2, 3}})
	h.done(0, "a NOOP")
	h.wantSight(0, api.SessionSight{State: api.StateSelected, Box: 2, Uids: []int{1, 3}})
	h.done(0, "a UNSELECT")
	h.wantSight(0, api.SessionSight{State: api.StateKnown})
	h.done(0, "i IDLE")
	h.wantSight(0, api.SessionSight{State: api.StateKnown, Idle: true})
}

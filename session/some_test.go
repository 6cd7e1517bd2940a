package session_test

import (
	"errors"
	"fmt"
	"maps"
	"math/rand/v2"
	"reflect"
	"slices"
	"strings"
	"testing"

	"postbag/answer"
	"postbag/api"
	"postbag/command"
	"postbag/disk"
	"postbag/event"
	"postbag/session"
	"postbag/store"
	"postbag/vault"
)

const (
	end = api.MaxNumber - 1 // the greatest number of a store

	overFrame = 18 // what a frame has more than its body

	five = `\Answered \Deleted \Draft \Flagged \Seen`

	caps = "IMAP4rev1 LITERAL+ UIDPLUS UNSELECT MOVE IDLE NAMESPACE ENABLE CONDSTORE SORT THREAD=ORDEREDSUBJECT THREAD=REFERENCES ESEARCH"

	notNow  = "BAD not now"
	tooMuch = "NO [LIMIT] that is more than may be"
	isFull  = "NO [OVERQUOTA] the disk is full"
	isGone  = "NO [EXPUNGEISSUED] some of these have gone"
	isRead  = "NO [READ-ONLY] it is open for reading alone"
	cannot  = "NO [CANNOT] no mailbox may be named so"
	isNone  = "NO [NONEXISTENT] no such mailbox"
	tryIt   = "NO [TRYCREATE] no such mailbox"
	isThere = "NO [ALREADYEXISTS] there is such a mailbox"
	hasKids = "NO [HASCHILDREN] others lie below it"
	inUse   = "NO [INUSE] it is in use"
	noSuch  = "BAD no such message"
	unknown = "NO [BADCHARSET (US-ASCII UTF-8)] unknown charset"
)

var now = api.Moment{Year: 2026, Month: 2, Day: 1, Hour: 10}

func someRules() api.Rules {
	return api.Rules{User: "u", Pass: "p", Quota: 200000, Validity: 1, Uid: 1, Number: 2, Now: now}
}

// conn is a connection: what it sends goes through a reader.
type conn struct {
	*session.Session
	reader *command.Reader
	heard  []string // what it was told while others were busy
}

// house is a vault and connections over it.
type house struct {
	t     *testing.T
	disk  *disk.Disk
	vault *vault.Vault
	rules api.Rules
	conns []*conn
}

func build(t *testing.T, conns int, rules api.Rules) *house {
	t.Helper()
	h := &house{t: t, rules: rules}
	var err error
	if h.disk, err = disk.New(rules.Quota); err != nil {
		t.Fatal(err)
	}
	if h.vault, err = vault.Open(h.disk, rules); err != nil {
		t.Fatal(err)
	}
	for range conns {
		h.conns = append(h.conns, &conn{Session: session.New(h.vault, rules), reader: command.New()})
	}
	return h
}

// entered is a house whose connections are logged in.
func entered(t *testing.T, conns int, rules api.Rules) *house {
	t.Helper()
	h := build(t, conns, rules)
	for k := range conns {
		h.want(k, "l LOGIN u p", "l OK LOGIN done")
	}
	return h
}

func (h *house) store() *store.Store { return h.vault.Store() }

// lines are answers as they are sent, without their last line ends; each is one that chapter 15 prints and reads again (P17.15).
func (h *house) lines(told []api.Answer) []string {
	h.t.Helper()
	client := answer.New()
	var out []string
	for _, a := range told {
		line, code := answer.Print(a)
		client.Feed(line)
		again, is := client.Next()
		if code != api.OK || !is || again.Kind != a.Kind {
			h.t.Fatalf("P17.15: %+v: %d, %+v", a, code, again)
		}
		out = append(out, strings.TrimSuffix(line, "\r\n"))
	}
	if _, is := client.Next(); is {
		h.t.Fatalf("P17.15: more answers than %+v", told)
	}
	return out
}

// take is one input, of which all others hear; it holds what P17.16 says of every command.
func (h *house) take(k int, in api.Input) []string {
	h.t.Helper()
	last, frozen := h.store().Last(), h.store().Freeze()
	told, err := h.conns[k].Take(in)
	if err != nil {
		h.t.Fatalf("%+v: %v", in, err)
	}
	events := h.vault.Since(last)
	if len(events) > 1 || h.store().Last() != last+len(events) {
		h.t.Fatalf("P17.16: %+v: %+v", in, events)
	}
	for i, a := range told {
		isEnd := a.Kind == api.AnswerState && (a.Tag != "" || a.Outcome == api.OutBad || a.Outcome == api.OutBye && in.Kind == api.InBad)
		if isEnd != (i == len(told)-1) && !h.conns[k].Sight().Idle && in.Kind != api.InContinue {
			h.t.Errorf("P17.16: %+v: %q", in, h.lines(told))
		}
		if a.Outcome >= api.OutNo && a.Outcome <= api.OutBad && (len(events) > 0 || frozen != h.store().Freeze()) {
			h.t.Errorf("P17.16: %+v: %q, and an event", in, h.lines(told))
		}
	}
	h.conns[k].reader.Idle(h.conns[k].Sight().Idle)
	h.tellOthers(k, events...)
	return h.lines(told)
}

// tellOthers lets all but one connection hear events; -1 is nobody.
func (h *house) tellOthers(k int, events ...api.Event) {
	h.t.Helper()
	for _, e := range events {
		for i, c := range h.conns {
			if i != k {
				c.heard = append(c.heard, h.lines(c.Hear(e))...)
			}
		}
	}
}

// say sends a line, literals and all: what is told.
func (h *house) say(k int, line string) []string {
	h.t.Helper()
	c := h.conns[k]
	c.reader.Feed(line + "\r\n")
	var out []string
	for {
		in, is := c.reader.Next()
		if !is {
			return out
		}
		out = append(out, h.take(k, in)...)
	}
}

func (h *house) want(k int, line string, want ...string) {
	h.t.Helper()
	if got := h.say(k, line); !slices.Equal(got, want) {
		h.t.Errorf("%q:\n told %q\n not  %q", line, got, want)
	}
}

// wantEnd holds the tagged answer alone.
func (h *house) wantEnd(k int, line, want string) {
	h.t.Helper()
	got := h.say(k, line)
	if len(got) == 0 || got[len(got)-1] != want {
		h.t.Errorf("%q: told %q, not %q", line, got, want)
	}
}

// done sends lines that are answered OK.
func (h *house) done(k int, lines ...string) {
	h.t.Helper()
	for _, line := range lines {
		got := h.say(k, line)
		tag, _, _ := strings.Cut(line, " ")
		if len(got) == 0 || !strings.HasPrefix(got[len(got)-1], tag+" OK ") && !strings.HasPrefix(got[0], "+ ") {
			h.t.Fatalf("%q: %q", line, got)
		}
	}
}

// wantHeard holds what a connection was told while others were busy, since it was last asked.
func (h *house) wantHeard(k int, want ...string) {
	h.t.Helper()
	if got := h.conns[k].heard; !slices.Equal(got, want) {
		h.t.Errorf("%d heard %q, not %q", k, got, want)
	}
	h.conns[k].heard = nil
}

func (h *house) wantSight(k int, want api.SessionSight) {
	h.t.Helper()
	got := h.conns[k].Sight()
	if len(got.Uids) == 0 && len(want.Uids) == 0 {
		got.Uids, want.Uids = nil, nil
	}
	if !reflect.DeepEqual(got, want) {
		h.t.Errorf("Sight of %d: %+v, not %+v", k, got, want)
	}
}

func (h *house) wantHeld(validity, want int) {
	h.t.Helper()
	if got := h.vault.Held(validity); got != want {
		h.t.Errorf("Held(%d): %d, not %d", validity, got, want)
	}
}

// add appends messages to a mailbox.
func (h *house) add(k int, name, flags string, bodies ...string) {
	h.t.Helper()
	for _, body := range bodies {
		h.done(k, fmt.Sprintf("add APPEND %s (%s) {%d+}\r\n%s", name, flags, len(body), body))
	}
}

// commit is what somebody else has done, of which all hear.
func (h *house) commit(e api.Event, code api.Errno) {
	h.t.Helper()
	if code != api.OK || e.Kind == 0 {
		h.t.Fatalf("%+v: %d", e, code)
	}
	if err := h.vault.Commit(e); err != nil {
		h.t.Fatalf("%+v: %v", e, err)
	}
	h.tellOthers(-1, e)
}

// fill turns the flags of a message till the disk has not a byte left.
func (h *house) fill(box, uid int) {
	h.t.Helper()
	long := strings.Repeat("k", api.MaxKeyword-1)
	turned := func(n int) (api.Event, int) {
		flags := []string{strings.Repeat("x", 1+n%api.MaxKeyword)}
		for i := range n / api.MaxKeyword {
			flags = append(flags, long+string(rune('a'+i)))
		}
		e, _, _ := h.store().Flags(box, []int{uid}, 0, flags, -1)
		return e, overFrame + event.Size(e)
	}
	left := func() int { return h.disk.Quota() - h.disk.Used() }
	for n := 0; left() > 400; n++ {
		e, _ := turned(7*api.MaxKeyword + n%2)
		h.commit(e, api.OK)
	}
	sizes := map[int]int{}
	for n := range 8 * api.MaxKeyword {
		if e, size := turned(n); e.Kind != 0 {
			sizes[size] = n
		}
	}
	for _, size := range slices.Sorted(maps.Keys(sizes)) {
		n := sizes[size]
		if other, is := sizes[left()-size]; is && other != n {
			for _, n := range []int{n, other} {
				e, _ := turned(n)
				h.commit(e, api.OK)
			}
			break
		}
	}
	if left() != 0 {
		h.t.Fatalf("%d bytes are left", left())
	}
}

// stops holds that a command meets a stop: nothing is told, and the connection is over (P17.3).
func (h *house) stops(k int, line string) {
	h.t.Helper()
	c := h.conns[k]
	c.reader.Feed(line + "\r\n")
	in, _ := c.reader.Next()
	told, err := c.Take(in)
	if len(told) != 0 || !errors.Is(err, api.WhyDown) {
		h.t.Errorf("%q: %+v, %v", line, told, err)
	}
	h.wantSight(k, api.SessionSight{State: api.StateOver})
	if told, err = c.Take(in); len(told) != 0 || err != nil {
		h.t.Errorf("%q, over: %+v, %v", line, told, err)
	}
}

// selects is what SELECT or EXAMINE of INBOX in a new house tells, where there are no keywords.
func selects(count, recent, next, modseq int, unseen ...int) []string {
	out := []string{
		"* FLAGS (" + five + ")",
		fmt.Sprintf("* %d EXISTS", count),
		fmt.Sprintf("* %d RECENT", recent),
	}
	for _, n := range unseen {
		out = append(out, fmt.Sprintf("* OK [UNSEEN %d] the first unseen one", n))
	}
	return append(out,
		"* OK [PERMANENTFLAGS ("+five+` \*)] these can be kept`,
		fmt.Sprintf("* OK [UIDNEXT %d] the next uid", next),
		"* OK [UIDVALIDITY 1] the validity",
		fmt.Sprintf("* OK [HIGHESTMODSEQ %d] the highest modseq", modseq),
	)
}

func oneOf[E any](r *rand.Rand, list ...E) E { return list[r.IntN(len(list))] }

func command1(t *testing.T, line string, literals ...string) api.Input {
	t.Helper()
	c, code := command.Read(line, literals)
	if code != api.OK {
		t.Fatalf("%q: %d", line, code)
	}
	return api.Input{Kind: api.InCommand, Command: c}
}

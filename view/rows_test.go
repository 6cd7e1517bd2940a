package view_test

import (
	"math/rand/v2"
	"slices"
	"strings"
	"testing"

	"postbag/api"
	"postbag/store"
	"postbag/view"
)

// client knows a mailbox by what it is told alone: the uids of its numbers, asked for where they are new, and their flags.
type client struct {
	uids  []int
	flags map[int]string // by uid
}

// take is P16.8: an EXPUNGE takes the number out, an EXISTS says how many there are.
func (c *client) take(t *testing.T, told []api.Told, asks func(number int) int) {
	t.Helper()
	step := api.ToldExpunge
	for _, news := range told {
		if news.Kind < step {
			t.Fatalf("out of order: %+v", told)
		}
		step = news.Kind
		switch news.Kind {
		case api.ToldExpunge:
			if news.Num < 1 || news.Num > len(c.uids) || c.uids[news.Num-1] != news.Uid {
				t.Fatalf("%+v: %v", news, c.uids)
			}
			c.uids = slices.Delete(c.uids, news.Num-1, news.Num)
		case api.ToldExists:
			if news.Num <= len(c.uids) {
				t.Fatalf("%+v: %v", news, c.uids)
			}
			for number := len(c.uids) + 1; number <= news.Num; number++ {
				c.uids = append(c.uids, asks(number))
			}
		case api.ToldFlags:
			if news.Num < 1 || news.Num > len(c.uids) || c.uids[news.Num-1] != news.Uid {
				t.Fatalf("%+v: %v", news, c.uids)
			}
			c.flags[news.Uid] = joined(news.Flags)
		}
	}
}

func joined(flags []string) string { return strings.Join(flags, " ") }

// P16.8, P16.9, P16.10: whoever keeps a list by what is told has the view's, whatever the events are; numbers change by ToldExpunge alone.
func TestListByTold(t *testing.T) {
	r := rand.New(rand.NewPCG(16, 8))
	for range 600 {
		uids := someUids(r)
		m := newSlow(here, uids, 1)
		v := view.New(api.BoxSight{Validity: here}, mails(uids...), 1)
		c := client{uids: v.Uids(), flags: map[int]string{}}
		for range 50 {
			before := v.Uids()
			e := someEvent(r, m)
			v.Hear(e, r.IntN(3) == 0)
			m.hear(e, false)
			wantUids(t, "Hear turns no number", v, before...)
			if r.IntN(3) > 0 {
				continue
			}
			when := 1 + r.IntN(2)
			told := v.Take(when, 1)
			now := v.Uids()
			c.take(t, told, func(number int) int {
				if number > len(now) {
					t.Fatalf("%+v: %v", told, now)
				}
				return now[number-1]
			})
			m.take(when, 1)
			wantUids(t, "the client's list", v, c.uids...)
			if when == api.WhenNumbers && (len(now) < len(before) || !slices.Equal(now[:len(before)], before)) {
				t.Errorf("WhenNumbers: %v, was %v", now, before)
			}
			if when == api.WhenAll {
				wantSome(t, "gone behind WhenAll", v.Gone, slices.Concat(before, now))
			}
			wantTold(t, "a second Take", v.Take(when, 1))
			if t.Failed() {
				return
			}
		}
	}
}

// onlooker is a view of a mailbox of a store, and a client who knows the flags of all its messages at first.
type onlooker struct {
	box  int
	view *view.View
	client
	silent map[int]bool // uids that came and went between two Takes, or have gone: never told of
}

func look(t *testing.T, s *store.Store, name string) *onlooker {
	t.Helper()
	box, e := s.Box(name)
	if e != api.OK {
		t.Fatalf("%s: %d", name, e)
	}
	messages := inside(t, s, box.Validity)
	o := &onlooker{box: box.Validity, view: view.New(box, messages, 1), silent: map[int]bool{}}
	o.flags = map[int]string{}
	for _, mail := range messages {
		o.uids = append(o.uids, mail.Uid)
		o.flags[mail.Uid] = joined(mail.Flags)
	}
	return o
}

func inside(t *testing.T, s *store.Store, box int) []api.Mail {
	t.Helper()
	messages, e := s.Mails(box)
	if e != api.OK {
		t.Fatalf("the mailbox %d: %d", box, e)
	}
	return messages
}

// hear is an event that this client, or another one, has brought about. Its own answers tell it of flags that it turned itself.
func (o *onlooker) hear(s *store.Store, e api.Event, own bool) {
	o.view.Hear(e, own)
	for _, mark := range e.Marks {
		if _, e2 := o.view.Seq(mark.Uid); e.Kind == api.EventFlags && e.Box == o.box && own && e2 == api.OK {
			o.flags[mark.Uid] = joined(mark.Flags)
		}
	}
	left, _ := s.Mails(o.box)
	for uid := range o.flags {
		if !slices.ContainsFunc(left, func(mail api.Mail) bool { return mail.Uid == uid }) {
			o.silent[uid] = true
		}
	}
	for _, uid := range e.Uids {
		if _, e2 := o.view.Seq(uid); e.Box == o.box && (e.Kind == api.EventExpunge || e.Kind == api.EventMove) && e2 != api.OK {
			o.silent[uid] = true
		}
	}
}

// wantFlags is P16.11: of all that others turned nothing is left out.
func (o *onlooker) wantFlags(t *testing.T, s *store.Store) {
	t.Helper()
	for _, mail := range inside(t, s, o.box) {
		if known, is := o.flags[mail.Uid]; !is || known != joined(mail.Flags) {
			t.Fatalf("%d has %q, the client knows %q", mail.Uid, mail.Flags, known)
		}
	}
}

func (o *onlooker) take(t *testing.T, s *store.Store, when int) {
	t.Helper()
	told := o.view.Take(when, 1)
	messages := inside(t, s, o.box)
	for i, news := range told {
		if news.Kind == api.ToldFlags && o.silent[news.Uid] {
			t.Fatalf("%+v: it has gone", news)
		}
		at := slices.IndexFunc(messages, func(mail api.Mail) bool { return mail.Uid == news.Uid })
		if news.Kind == api.ToldFlags && (messages[at].Modseq != news.Modseq || joined(messages[at].Flags) != joined(news.Flags)) {
			t.Fatalf("%+v: %+v", news, messages[at])
		}
		again := func(other api.Told) bool { return other.Kind == news.Kind && other.Uid == news.Uid }
		if slices.ContainsFunc(told[i+1:], again) {
			t.Fatalf("told twice: %+v", told)
		}
	}
	now := o.view.Uids()
	o.client.take(t, told, func(number int) int {
		uid := now[number-1]
		at := slices.IndexFunc(messages, func(mail api.Mail) bool { return mail.Uid == uid })
		if at < 0 {
			t.Fatalf("%d is told of, and is not there", uid)
		}
		o.flags[uid] = joined(messages[at].Flags)
		return uid
	})
	wantUids(t, "the client's list", o.view, o.uids...)
	o.wantFlags(t, s)
	if when != api.WhenAll {
		return
	}
	var real []int
	for _, mail := range messages {
		real = append(real, mail.Uid)
	}
	wantUids(t, "the mailbox's own", o.view, real...)
	wantSome(t, "gone behind WhenAll", o.view.Gone, real)
	wantTold(t, "a second Take", o.view.Take(when, 1))
}

// someOf are some of a mailbox's uids.
func someOf(t *testing.T, r *rand.Rand, s *store.Store, box int) []int {
	var out []int
	for _, mail := range inside(t, s, box) {
		if r.IntN(3) == 0 {
			out = append(out, mail.Uid)
		}
	}
	return out
}

// change is what some client does: one of the plans that leave selected mailboxes their names.
func change(t *testing.T, r *rand.Rand, s *store.Store) api.Event {
	t.Helper()
	name, other := oneOf(r, "INBOX", "a", "b"), oneOf(r, "INBOX", "a", "b")
	box, _ := s.Box(name)
	uids := someOf(t, r, s, box.Validity)
	day := api.Moment{Year: 2026, Month: 11, Day: 17}
	var e api.Event
	switch r.IntN(20) {
	case 0:
		e, _ = s.Rename("INBOX", oneOf(r, "old", "old/er", "c"))
	case 1:
		e, _ = s.Drop(oneOf(r, "old", "old/er", "c"))
	case 2:
		e, _ = s.Subscribe(name)
	case 3, 4, 5, 6, 7:
		e, _ = s.Add(name, []string{oneOf(r, `\Seen`, "k", "l")}, day, "x")
	case 8, 9:
		e, _ = s.Copy(box.Validity, uids, other)
	case 10, 11:
		e, _ = s.Move(box.Validity, uids, other)
	case 12, 13:
		e, _ = s.Expunge(box.Validity, uids)
	default:
		e, _, _ = s.Flags(box.Validity, uids, r.IntN(3)-1, []string{oneOf(r, `\Seen`, `\Deleted`, "k")}, -1)
	}
	return e
}

// P16.8 to P16.11: views of the mailboxes of a store, told at any time, against the mailboxes themselves.
func TestAgainstStore(t *testing.T) {
	r := rand.New(rand.NewPCG(16, 9))
	for range 60 {
		s, _ := store.New(7, oneOf(r, 1, 50), 2)
		for _, name := range []string{"a", "b"} {
			e, _ := s.Make(name)
			s.Apply(e)
		}
		for range 12 {
			if e := change(t, r, s); e.Kind != api.EventInbox {
				s.Apply(e)
			}
		}
		var all []*onlooker
		for _, name := range []string{"INBOX", "a", "a", "b"} {
			all = append(all, look(t, s, name))
		}
		for range 120 {
			e := change(t, r, s)
			if e.Kind != 0 && s.Apply(e) != api.OK {
				t.Fatalf("%+v", e)
			}
			who := r.IntN(len(all) + 1)
			for i, o := range all {
				o.hear(s, e, i == who)
				if r.IntN(5) == 0 {
					o.take(t, s, 1+r.IntN(2))
				}
			}
			if t.Failed() {
				return
			}
		}
		for _, o := range all {
			o.take(t, s, api.WhenAll)
		}
	}
}

// P16.9, P16.11: a client who never has numbers turned knows all flags all the same, and in the end the mailbox.
func TestOnlyNumbers(t *testing.T) {
	r := rand.New(rand.NewPCG(16, 10))
	for range 40 {
		s, _ := store.New(7, 1, 2)
		for _, name := range []string{"a", "b"} {
			e, _ := s.Make(name)
			s.Apply(e)
		}
		o := look(t, s, "INBOX")
		for range 80 {
			before := o.view.Uids()
			e := change(t, r, s)
			s.Apply(e)
			o.hear(s, e, r.IntN(2) == 0)
			o.take(t, s, api.WhenNumbers)
			if now := o.view.Uids(); !slices.Equal(now[:len(before)], before) {
				t.Fatalf("%v, was %v", now, before)
			}
		}
		o.take(t, s, api.WhenAll)
	}
}

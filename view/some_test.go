package view_test

import (
	"fmt"
	"math/rand/v2"
	"slices"
	"testing"

	"postbag/api"
	"postbag/view"
)

const (
	least = -1 << 63
	most  = 1<<63 - 1

	end = api.MaxNumber - 1 // the greatest uid

	here  = 7 // the validity of the view's mailbox
	there = 8 // that of another one
)

var edges = []int{least, least + 1, -api.MaxNumber, -1, 0, 1, 2, end - 1, end, api.MaxNumber, api.MaxNumber + 1, most - 1, most}

func list(uids ...int) []int { return uids }

func mails(uids ...int) []api.Mail {
	var out []api.Mail
	for _, uid := range uids {
		out = append(out, api.Mail{Uid: uid})
	}
	return out
}

// viewOf is a view of the mailbox here; nothing in it is recent.
func viewOf(uids ...int) *view.View {
	return view.New(api.BoxSight{Validity: here}, mails(uids...), most)
}

func set(ends ...int) []api.Range {
	var out []api.Range
	for i := 0; i < len(ends); i += 2 {
		out = append(out, api.Range{From: ends[i], To: ends[i+1]})
	}
	return out
}

func adds(box, uid int) api.Event { return api.Event{Kind: api.EventAdd, Box: box, First: uid} }

func expunges(box int, uids ...int) api.Event {
	return api.Event{Kind: api.EventExpunge, Box: box, Uids: uids}
}

func copies(box, to, first int, uids ...int) api.Event {
	return api.Event{Kind: api.EventCopy, Box: box, To: to, First: first, Uids: uids}
}

func moves(box, to, first int, uids ...int) api.Event {
	return api.Event{Kind: api.EventMove, Box: box, To: to, First: first, Uids: uids}
}

func empties(box int) api.Event { return api.Event{Kind: api.EventInbox, Box: box} }

func mark(uid int, flags ...string) api.Mark { return api.Mark{Uid: uid, Flags: flags} }

func turns(box, number int, marks ...api.Mark) api.Event {
	return api.Event{Kind: api.EventFlags, Box: box, Number: number, Marks: marks}
}

func gone(number, uid int) api.Told {
	return api.Told{Kind: api.ToldExpunge, Num: number, Uid: uid}
}

func exists(count int) api.Told { return api.Told{Kind: api.ToldExists, Num: count} }

func recent(count int) api.Told { return api.Told{Kind: api.ToldRecent, Num: count} }

func flags(number, uid, modseq int, flags ...string) api.Told {
	return api.Told{Kind: api.ToldFlags, Num: number, Uid: uid, Modseq: modseq, Flags: flags}
}

func sameTold(a, b api.Told) bool {
	return a.Kind == b.Kind && a.Num == b.Num && a.Uid == b.Uid && a.Modseq == b.Modseq && slices.Equal(a.Flags, b.Flags)
}

func wantTold(t *testing.T, what string, got []api.Told, want ...api.Told) {
	t.Helper()
	if !slices.EqualFunc(got, want, sameTold) {
		t.Errorf("%s: told %+v, not %+v", what, got, want)
	}
}

// wantUids holds the rows, and that Seq and Uids say the same.
func wantUids(t *testing.T, what string, v *view.View, want ...int) {
	t.Helper()
	if got := v.Uids(); !slices.Equal(got, want) {
		t.Errorf("%s: %v, not %v", what, got, want)
	}
	for i, uid := range want {
		if number, e := v.Seq(uid); number != i+1 || e != api.OK {
			t.Errorf("%s: Seq(%d): %d, %d", what, uid, number, e)
		}
	}
}

// wantSome holds that of some uids just these are as a question asks.
func wantSome(t *testing.T, what string, asked func(uid int) bool, of []int, want ...int) {
	t.Helper()
	for _, uid := range of {
		if got := asked(uid); got != slices.Contains(want, uid) {
			t.Errorf("%s: of %d: %v", what, uid, got)
		}
	}
}

func hears(v *view.View, own bool, events ...api.Event) {
	for _, e := range events {
		v.Hear(e, own)
	}
}

func oneOf[E any](r *rand.Rand, list ...E) E { return list[r.IntN(len(list))] }

func words(format string, args ...any) string { return fmt.Sprintf(format, args...) }

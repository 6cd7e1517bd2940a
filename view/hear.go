package view

import (
	"slices"

	"postbag/api"
)

const mostKind = api.EventUnsubscribe

// Hear takes in what an event did to the mailbox; own: this connection did it itself, and is told of flags otherwise.
func (v *View) Hear(e api.Event, own bool) {
	if v == nil || !v.made {
		return
	}
	happens := [mostKind + 1]func(e api.Event, own bool){
		api.EventInbox:   v.emptied,
		api.EventAdd:     v.added,
		api.EventFlags:   v.flagged,
		api.EventExpunge: v.expunged,
		api.EventCopy:    v.copied,
		api.EventMove:    v.moved,
	}
	if e.Kind < 0 || e.Kind > mostKind || happens[e.Kind] == nil {
		return
	}
	happens[e.Kind](e, own)
}

func (v *View) added(e api.Event, _ bool) {
	if e.Box == v.validity {
		v.come(e.First)
	}
}

func (v *View) copied(e api.Event, _ bool) {
	if e.To == v.validity {
		v.come(following(e.First, len(e.Uids))...)
	}
}

func (v *View) moved(e api.Event, own bool) {
	v.copied(e, own)
	v.expunged(e, own)
}

func (v *View) expunged(e api.Event, _ bool) {
	if e.Box == v.validity {
		v.leave(e.Uids...)
	}
}

func (v *View) emptied(e api.Event, _ bool) {
	if e.Box == v.validity {
		v.leave(v.Uids()...)
		v.coming = nil
	}
}

func (v *View) flagged(e api.Event, own bool) {
	if e.Box != v.validity {
		return
	}
	for _, mark := range e.Marks {
		at, is := v.place(mark.Uid)
		if !is || v.rows[at].gone {
			continue
		}
		// Its own answers told the connection what it turned itself: only older news must not be told behind them.
		if !own || v.rows[at].waits != nil {
			v.rows[at].waits = &turn{e.Number, append([]string(nil), mark.Flags...)}
		}
	}
}

// come puts uids to those that are coming.
func (v *View) come(uids ...int) {
	for _, uid := range uids {
		if uid > v.greatest() && uid < api.MaxNumber {
			v.coming = append(v.coming, uid)
		}
	}
}

// greatest is the greatest uid of the rows and of what is coming, 0 if there is none.
func (v *View) greatest() int {
	if n := len(v.coming); n > 0 {
		return v.coming[n-1]
	}
	if n := len(v.rows); n > 0 {
		return v.rows[n-1].uid
	}
	return 0
}

// leave takes uids for gone, or forgets that they are coming.
func (v *View) leave(uids ...int) {
	for _, uid := range uids {
		if at, is := v.place(uid); is {
			v.rows[at].gone, v.rows[at].waits = true, nil
		}
		if at, is := slices.BinarySearch(v.coming, uid); is {
			v.coming = slices.Delete(v.coming, at, at+1)
		}
	}
}

// following is a row of numbers, one behind the other. It ends ahead of what no uid can be: so none leaves int, however great the first is.
func following(first, count int) []int {
	var out []int
	for n := first; len(out) < count && n < api.MaxNumber; n++ {
		out = append(out, n)
	}
	return out
}

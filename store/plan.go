package store

import (
	"slices"

	"postbag/api"
	"postbag/event"
)

const always = -1 // in the place of a modseq: no message is left out

// Make plans the event that makes a mailbox.
func (s *Store) Make(name string) (api.Event, api.Errno) {
	name, is := asName(name)
	switch {
	case !is || name == inbox:
		return api.Event{}, api.ErrCannot
	case s.isNothing():
		return api.Event{}, api.ErrLimit
	case s.has(name):
		return api.Event{}, api.ErrThere
	}
	names := append(s.lacking(name), name)
	if len(s.boxes)+len(names) > api.MaxBoxes {
		return api.Event{}, api.ErrLimit
	}
	return s.planned(api.Event{Kind: api.EventMake, Names: names, Boxes: s.given(names)})
}

// Drop plans the event that takes one away.
func (s *Store) Drop(name string) (api.Event, api.Errno) {
	s = s.some()
	name, is := asName(name)
	validity, b := s.named(name)
	switch {
	case name == inbox:
		return api.Event{}, api.ErrCannot
	case !is || b == nil:
		return api.Event{}, api.ErrBox
	case len(s.below(name)) > 0:
		return api.Event{}, api.ErrInferior
	}
	return s.planned(api.Event{Kind: api.EventDrop, Box: validity})
}

// Rename plans the event that gives one, and those below it, another name.
func (s *Store) Rename(from, to string) (api.Event, api.Errno) {
	s = s.some()
	from, _ = asName(from)
	to, is := asName(to)
	renamed, fit := s.renamed(from, to)
	validity, b := s.named(from)
	switch {
	case !is || to == inbox || isBelow(to, from) || !fit:
		return api.Event{}, api.ErrCannot
	case b == nil:
		return api.Event{}, api.ErrBox
	case s.has(to):
		return api.Event{}, api.ErrThere
	}
	e := api.Event{Kind: api.EventRename, Box: validity, Names: append(s.lacking(to), to)}
	e.Names = append(e.Names, renamed...)
	behind := len(s.boxes) + len(e.Names)
	if from == inbox {
		e.Kind = api.EventInbox
	} else {
		behind -= 1 + len(renamed)
	}
	if behind > api.MaxBoxes {
		return api.Event{}, api.ErrLimit
	}
	e.Boxes = s.given(e.Names)
	return s.planned(e)
}

// Add plans the event that puts a message into one.
func (s *Store) Add(name string, flags []string, date api.Moment, body string) (api.Event, api.Errno) {
	if len(flags) > api.MaxFlags || len(body) > api.MaxLiteral {
		return api.Event{}, api.ErrLong
	}
	name, is := asName(name)
	if !is {
		return api.Event{}, api.ErrCannot
	}
	form, code := event.Flags(flags)
	if code != api.OK {
		return api.Event{}, code
	}
	if !isDate(date) {
		return api.Event{}, api.ErrArg
	}
	s = s.some()
	validity, b := s.named(name)
	if b == nil {
		return api.Event{}, api.ErrBox
	}
	m := message{flagSet: setOf(form).spelled(known(b.messages))}
	if len(b.messages) >= api.MaxMails || knowsTooMany(append(slices.Clone(b.messages), m)) {
		return api.Event{}, api.ErrLimit
	}
	marks := []api.Mark{{Uid: b.next, Flags: m.list()}}
	return s.planned(api.Event{Kind: api.EventAdd, Box: validity, First: b.next, Marks: marks, Date: date, Body: body})
}

// Flags plans the event that turns flags; it tells the uids that were left out since they changed behind a modseq (-1: none are).
func (s *Store) Flags(box int, uids []int, mode int, flags []string, unchanged int) (api.Event, []int, api.Errno) {
	form, code := asked(uids, mode, flags, unchanged)
	if code != api.OK {
		return api.Event{}, nil, code
	}
	s = s.some()
	b, is := s.boxes[box]
	if !is {
		return api.Event{}, nil, api.ErrBox
	}
	places, is := b.places(uids)
	if !is {
		return api.Event{}, nil, api.ErrUid
	}
	given := setOf(form).spelled(known(b.messages))
	behind := slices.Clone(b.messages)
	var marks []api.Mark
	var passed []int
	for _, at := range places {
		m := &behind[at]
		if unchanged != always && m.modseq > unchanged {
			passed = append(passed, m.uid)
			continue
		}
		if turned := m.turned(mode, given); !turned.equal(m.flagSet) {
			m.flagSet = turned
			marks = append(marks, api.Mark{Uid: m.uid, Flags: m.list()})
		}
	}
	if len(marks) == 0 {
		return api.Event{}, passed, api.OK
	}
	if knowsTooMany(behind) {
		return api.Event{}, nil, api.ErrLimit
	}
	e, code := s.planned(api.Event{Kind: api.EventFlags, Box: box, Marks: marks})
	if code != api.OK {
		return api.Event{}, nil, code
	}
	return e, passed, api.OK
}

// asked looks at what Flags is given by itself: it is the one form of the flags.
func asked(uids []int, mode int, flags []string, unchanged int) ([]string, api.Errno) {
	switch {
	case len(uids) > api.MaxMails || len(flags) > api.MaxFlags:
		return nil, api.ErrLong
	case mode < -1 || mode > 1:
		return nil, api.ErrArg
	}
	form, code := event.Flags(flags)
	if code == api.OK && (unchanged < always || unchanged > api.MaxNumber) {
		return nil, api.ErrNumber
	}
	return form, code
}

// Expunge plans the event that takes messages away.
func (s *Store) Expunge(box int, uids []int) (api.Event, api.Errno) {
	if len(uids) > api.MaxMails {
		return api.Event{}, api.ErrLong
	}
	s = s.some()
	b, is := s.boxes[box]
	if !is {
		return api.Event{}, api.ErrBox
	}
	if _, is := b.places(uids); !is {
		return api.Event{}, api.ErrUid
	}
	if len(uids) == 0 {
		return api.Event{}, api.OK
	}
	return s.planned(api.Event{Kind: api.EventExpunge, Box: box, Uids: slices.Clone(uids)})
}

// Copy plans the event that copies messages.
func (s *Store) Copy(box int, uids []int, name string) (api.Event, api.Errno) {
	return s.carry(api.EventCopy, box, uids, name)
}

// Move plans the event that moves them.
func (s *Store) Move(box int, uids []int, name string) (api.Event, api.Errno) {
	return s.carry(api.EventMove, box, uids, name)
}

func (s *Store) carry(kind, box int, uids []int, name string) (api.Event, api.Errno) {
	if len(uids) > api.MaxMails {
		return api.Event{}, api.ErrLong
	}
	name, is := asName(name)
	if !is {
		return api.Event{}, api.ErrCannot
	}
	s = s.some()
	from, is := s.boxes[box]
	validity, to := s.named(name)
	if !is || to == nil {
		return api.Event{}, api.ErrBox
	}
	places, is := from.places(uids)
	if !is {
		return api.Event{}, api.ErrUid
	}
	if len(uids) == 0 {
		return api.Event{}, api.OK
	}
	behind := slices.Concat(to.messages, from.copies(places, to, s.last+1))
	if kind == api.EventMove && from == to {
		behind = left(behind, uids)
	}
	if len(behind) > api.MaxMails || knowsTooMany(behind) {
		return api.Event{}, api.ErrLimit
	}
	return s.planned(api.Event{Kind: kind, Box: box, To: validity, First: to.next, Uids: slices.Clone(uids)})
}

// Subscribe plans the event that subscribes to a mailbox.
func (s *Store) Subscribe(name string) (api.Event, api.Errno) {
	s = s.some()
	name, is := asName(name)
	switch {
	case !is || !s.has(name):
		return api.Event{}, api.ErrBox
	case slices.Contains(s.subs, name):
		return api.Event{}, api.OK
	case len(s.subs) >= api.MaxSubs:
		return api.Event{}, api.ErrLimit
	}
	return s.planned(api.Event{Kind: api.EventSubscribe, Name: name})
}

// Unsubscribe plans the event that gives that up.
func (s *Store) Unsubscribe(name string) (api.Event, api.Errno) {
	name, is := asName(name)
	switch {
	case !is || s.isNothing():
		return api.Event{}, api.ErrBox
	case !slices.Contains(s.subs, name):
		return api.Event{}, api.OK
	}
	return s.planned(api.Event{Kind: api.EventUnsubscribe, Name: name})
}

// planned is an event with its number, if neither that nor a validity or uid that it gives is beyond its end.
func (s *Store) planned(e api.Event) (api.Event, api.Errno) {
	e.Number = s.last + 1
	validity := s.validity + len(e.Boxes) - 1
	uid := e.First + max(len(e.Uids), 1) - 1
	if max(e.Number, validity, uid) >= api.MaxNumber {
		return api.Event{}, api.ErrEnd
	}
	return e, api.OK
}

// given are the validities of new mailboxes.
func (s *Store) given(names []string) []int {
	var out []int
	for i := range names {
		out = append(out, s.validity+i)
	}
	return out
}

// lacking are the superiors of a name that are not there, in order.
func (s *Store) lacking(name string) []string {
	var out []string
	for superior := range superiors(name) {
		if !s.has(superior) {
			out = append(out, superior)
		}
	}
	return out
}

// renamed is what the mailboxes below from are named behind a rename, in their order; false, if one gets what is no name. Those below INBOX stay.
func (s *Store) renamed(from, to string) ([]string, bool) {
	var out []string
	if from == inbox {
		return nil, true
	}
	for _, validity := range s.below(from) {
		name := to + s.nameOf(validity)[len(from):]
		if !isName(name) {
			return nil, false
		}
		out = append(out, name)
	}
	return out, true
}

// isDate asks chapter 11 by an event that has nothing else to be refused.
func isDate(date api.Moment) bool {
	marks := []api.Mark{{Uid: 1}}
	return event.Check(api.Event{Number: leastEvent, Kind: api.EventAdd, Box: 1, First: 1, Marks: marks, Date: date}) == api.OK
}

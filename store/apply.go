package store

import (
	"slices"

	"postbag/api"
	"postbag/event"
)

const mostKind = api.EventUnsubscribe

// way is how a store deals with the events of a kind.
type way struct {
	again func(s *Store, e api.Event) (api.Event, api.Errno) // what the plan that such an event comes from answers now
	do    func(s *Store, e api.Event)
}

func wayOf(kind int) way {
	ways := [mostKind + 1]way{
		api.EventMake:        {(*Store).againMake, (*Store).doMake},
		api.EventDrop:        {(*Store).againDrop, (*Store).doDrop},
		api.EventRename:      {(*Store).againRename, (*Store).doRename},
		api.EventInbox:       {(*Store).againInbox, (*Store).doInbox},
		api.EventAdd:         {(*Store).againAdd, (*Store).doAdd},
		api.EventFlags:       {(*Store).againFlags, (*Store).doFlags},
		api.EventExpunge:     {(*Store).againExpunge, (*Store).doExpunge},
		api.EventCopy:        {(*Store).againCopy, (*Store).doCopy},
		api.EventMove:        {(*Store).againMove, (*Store).doMove},
		api.EventSubscribe:   {(*Store).againSubscribe, (*Store).doSubscribe},
		api.EventUnsubscribe: {(*Store).againUnsubscribe, (*Store).doUnsubscribe},
	}
	return ways[kind]
}

// May tells what Apply would say.
func (s *Store) May(e api.Event) api.Errno {
	// No plan answers what chapter 11 refuses: so behind this the kind is one, and no list is empty where its kind has it.
	if s.isNothing() || event.Check(e) != api.OK {
		return api.ErrFit
	}
	if plan, code := wayOf(e.Kind).again(s, e); code != api.OK || !same(plan, e) {
		return api.ErrFit
	}
	return api.OK
}

// Apply applies the next event.
func (s *Store) Apply(e api.Event) api.Errno {
	if code := s.May(e); code != api.OK {
		return code
	}
	wayOf(e.Kind).do(s, e)
	s.validity += len(e.Boxes)
	s.last = e.Number
	return api.OK
}

func same(a, b api.Event) bool {
	return a.Number == b.Number && a.Kind == b.Kind && a.Box == b.Box && a.To == b.To && a.First == b.First &&
		a.Name == b.Name && slices.Equal(a.Names, b.Names) && slices.Equal(a.Boxes, b.Boxes) &&
		slices.Equal(a.Uids, b.Uids) && slices.EqualFunc(a.Marks, b.Marks, sameMark) && a.Date == b.Date && a.Body == b.Body
}

func sameMark(a, b api.Mark) bool { return a.Uid == b.Uid && slices.Equal(a.Flags, b.Flags) }

func lastOf[E any](list []E) E { return list[len(list)-1] }

func (s *Store) againMake(e api.Event) (api.Event, api.Errno) { return s.Make(lastOf(e.Names)) }

func (s *Store) againDrop(e api.Event) (api.Event, api.Errno) { return s.Drop(s.nameOf(e.Box)) }

func (s *Store) againRename(e api.Event) (api.Event, api.Errno) {
	for _, to := range e.Names {
		if plan, code := s.Rename(s.nameOf(e.Box), to); code == api.OK && same(plan, e) {
			return plan, api.OK
		}
	}
	return api.Event{}, api.ErrFit
}

func (s *Store) againInbox(e api.Event) (api.Event, api.Errno) {
	return s.Rename(inbox, lastOf(e.Names))
}

func (s *Store) againAdd(e api.Event) (api.Event, api.Errno) {
	return s.Add(s.nameOf(e.Box), lastOf(e.Marks).Flags, e.Date, e.Body)
}

// againFlags has no one plan to ask, since several plans may have brought such marks: it is the event itself, if that may be.
func (s *Store) againFlags(e api.Event) (api.Event, api.Errno) {
	b, is := s.boxes[e.Box]
	if !is || e.Number != s.last+1 {
		return api.Event{}, api.ErrFit
	}
	words := known(b.messages)
	for _, mark := range e.Marks {
		at, is := b.place(mark.Uid)
		given := setOf(mark.Flags)
		if !is || given.equal(b.messages[at].flagSet) || !given.equal(given.spelled(words)) {
			return api.Event{}, api.ErrFit
		}
		words = united(words, given.words)
	}
	if knowsTooMany(b.marked(e)) {
		return api.Event{}, api.ErrFit
	}
	return e, api.OK
}

func (s *Store) againExpunge(e api.Event) (api.Event, api.Errno) { return s.Expunge(e.Box, e.Uids) }

func (s *Store) againCopy(e api.Event) (api.Event, api.Errno) {
	return s.Copy(e.Box, e.Uids, s.nameOf(e.To))
}

func (s *Store) againMove(e api.Event) (api.Event, api.Errno) {
	return s.Move(e.Box, e.Uids, s.nameOf(e.To))
}

func (s *Store) againSubscribe(e api.Event) (api.Event, api.Errno) { return s.Subscribe(e.Name) }

func (s *Store) againUnsubscribe(e api.Event) (api.Event, api.Errno) { return s.Unsubscribe(e.Name) }

func (s *Store) doMake(e api.Event) {
	for i, name := range e.Names {
		s.open(name, e.Boxes[i], e.Number)
	}
}

func (s *Store) doDrop(e api.Event) { delete(s.boxes, e.Box) }

func (s *Store) doRename(e api.Event) {
	old := append([]int{e.Box}, s.below(s.nameOf(e.Box))...)
	made := len(e.Names) - len(old)
	for i, name := range e.Names[:made] {
		s.open(name, e.Boxes[i], e.Number)
	}
	for i, validity := range old {
		b := s.boxes[validity]
		delete(s.boxes, validity)
		b.name, b.highest = e.Names[made+i], e.Number
		s.boxes[e.Boxes[made+i]] = b
	}
}

func (s *Store) doInbox(e api.Event) {
	s.doMake(e)
	from, to := s.boxes[e.Box], s.boxes[lastOf(e.Boxes)]
	to.next, to.messages = from.next, from.messages
	for i := range to.messages {
		to.messages[i].modseq = e.Number
	}
	from.messages, from.highest = nil, e.Number
}

func (s *Store) doAdd(e api.Event) {
	b := s.boxes[e.Box]
	m := message{flagSet: setOf(lastOf(e.Marks).Flags), uid: e.First, modseq: e.Number, origin: e.Number, date: e.Date, body: e.Body}
	b.messages = append(b.messages, m)
	b.next, b.highest = e.First+1, e.Number
}

func (s *Store) doFlags(e api.Event) {
	b := s.boxes[e.Box]
	b.messages, b.highest = b.marked(e), e.Number
}

// marked are the messages behind an event of flags whose uids are there.
func (b *mailbox) marked(e api.Event) []message {
	out := slices.Clone(b.messages)
	for _, mark := range e.Marks {
		if at, is := b.place(mark.Uid); is {
			out[at].flagSet, out[at].modseq = setOf(mark.Flags), e.Number
		}
	}
	return out
}

func (s *Store) doExpunge(e api.Event) {
	b := s.boxes[e.Box]
	b.messages, b.highest = left(b.messages, e.Uids), e.Number
}

func (s *Store) doCopy(e api.Event) {
	from, to := s.boxes[e.Box], s.boxes[e.To]
	places, _ := from.places(e.Uids)
	to.messages = slices.Concat(to.messages, from.copies(places, to, e.Number))
	to.next, to.highest = e.First+len(e.Uids), e.Number
}

func (s *Store) doMove(e api.Event) {
	s.doCopy(e)
	s.doExpunge(e)
}

func (s *Store) doSubscribe(e api.Event) {
	at, _ := slices.BinarySearch(s.subs, e.Name)
	s.subs = slices.Insert(s.subs, at, e.Name)
}

func (s *Store) doUnsubscribe(e api.Event) {
	s.subs = slices.DeleteFunc(s.subs, func(name string) bool { return name == e.Name })
}

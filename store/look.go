package store

import (
	"slices"
	"strings"

	"postbag/api"
)

// Boxes tells all mailboxes, by names.
func (s *Store) Boxes() []api.BoxSight {
	s = s.some()
	var out []api.BoxSight
	for _, validity := range s.inOrder() {
		out = append(out, s.sight(validity))
	}
	return out
}

// Box is a mailbox by its name; By by its validity.
func (s *Store) Box(name string) (api.BoxSight, api.Errno) {
	s = s.some()
	name, _ = asName(name)
	validity, _ := s.named(name)
	return s.By(validity)
}

// By is a mailbox by its validity.
func (s *Store) By(validity int) (api.BoxSight, api.Errno) {
	s = s.some()
	if _, is := s.boxes[validity]; !is {
		return api.BoxSight{}, api.ErrBox
	}
	return s.sight(validity), api.OK
}

// sight is how a mailbox that is there stands.
func (s *Store) sight(validity int) api.BoxSight {
	b := s.boxes[validity]
	unseen := 0
	for _, m := range b.messages {
		if m.system&seen == 0 {
			unseen++
		}
	}
	return api.BoxSight{
		Name: b.name, Validity: validity, Next: b.next, Highest: b.highest, Count: len(b.messages), Unseen: unseen,
		Keywords: known(b.messages), Subscribed: slices.Contains(s.subs, b.name),
	}
}

// Mails are the messages of a mailbox, by uids; Seq is their place.
func (s *Store) Mails(validity int) ([]api.Mail, api.Errno) {
	s = s.some()
	b, is := s.boxes[validity]
	if !is {
		return nil, api.ErrBox
	}
	var out []api.Mail
	for i, m := range b.messages {
		out = append(out, api.Mail{Seq: i + 1, Uid: m.uid, Modseq: m.modseq, Flags: m.list(), Date: m.date, Raw: m.body})
	}
	return out, api.OK
}

// Subscribed are the names that are subscribed to, rising.
func (s *Store) Subscribed() []string { return slices.Clone(s.some().subs) }

// Last is the number of the last event, or the one ahead of the first.
func (s *Store) Last() int { return s.some().last }

// Twin is a store of its own that stands as this one does.
func (s *Store) Twin() *Store {
	if s.isNothing() {
		return &Store{}
	}
	twin := *s
	twin.subs = slices.Clone(s.subs)
	twin.boxes = map[int]*mailbox{}
	for validity, b := range s.boxes {
		own := *b
		own.messages = slices.Clone(b.messages)
		twin.boxes[validity] = &own
	}
	return &twin
}

// inOrder is the validities of all mailboxes, rising by name.
func (s *Store) inOrder() []int {
	var out []int
	for validity := range s.boxes {
		out = append(out, validity)
	}
	slices.SortFunc(out, func(a, b int) int { return strings.Compare(s.nameOf(a), s.nameOf(b)) })
	return out
}

// below is the validities of the mailboxes below a name, rising by name.
func (s *Store) below(name string) []int {
	return slices.DeleteFunc(s.inOrder(), func(validity int) bool { return !isBelow(s.nameOf(validity), name) })
}

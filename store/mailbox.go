package store

import (
	"cmp"
	"slices"

	"postbag/api"
)

type mailbox struct {
	name          string
	next, highest int
	messages      []message // by rising uid
}

type message struct {
	flagSet
	uid, modseq int
	origin      int // the event that brought the body; all messages with one origin have one body
	date        api.Moment
	body        string
}

// place is where the message with a uid stands.
func (b *mailbox) place(uid int) (int, bool) {
	return slices.BinarySearchFunc(b.messages, uid, func(m message, uid int) int { return cmp.Compare(m.uid, uid) })
}

// places are where messages stand; false, if uids do not rise, or are not there.
func (b *mailbox) places(uids []int) ([]int, bool) {
	var out []int
	for i, uid := range uids {
		at, is := b.place(uid)
		if !is || i > 0 && uid <= uids[i-1] {
			return nil, false
		}
		out = append(out, at)
	}
	return out, true
}

// known are the keywords that messages have, as they are written there.
func known(messages []message) []string {
	var lists [][]string
	for _, m := range messages {
		lists = append(lists, m.words)
	}
	return united(lists...)
}

func knowsTooMany(messages []message) bool { return len(known(messages)) > api.MaxKeywords }

// copies are what messages, by their places, become in another mailbox or in this one, brought by an event.
// Keywords that the target does not know need no second look: all messages of one mailbox write a keyword alike.
func (b *mailbox) copies(places []int, to *mailbox, number int) []message {
	words := known(to.messages)
	var out []message
	for i, at := range places {
		m := b.messages[at]
		m.uid, m.modseq, m.flagSet = to.next+i, number, m.spelled(words)
		out = append(out, m)
	}
	return out
}

// left are the messages but those with some uids, which rise.
func left(messages []message, uids []int) []message {
	return slices.DeleteFunc(slices.Clone(messages), func(m message) bool {
		_, gone := slices.BinarySearch(uids, m.uid)
		return gone
	})
}

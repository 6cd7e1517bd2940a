package store

import (
	"slices"
	"strings"

	"postbag/api"
	"postbag/event"
)

const mostBits = 5 * bitsOfByte // of a number: MaxNumber takes five bytes

// Thaw reads just what Freeze writes.
func Thaw(text string) (*Store, api.Errno) {
	if len(text) > api.MaxFrame {
		return nil, api.ErrLong
	}
	r := reader{rest: text}
	s := r.store()
	// A store has one text only, so writing it again finds every fault of form that the reader passes over.
	if !s.isSound() || s.Freeze() != text {
		return nil, api.ErrThaw
	}
	return s, api.OK
}

// reader goes through a frozen store. It reads generously: bytes that lack count as 0, what a list has beyond its limit is not looked at.
type reader struct {
	rest string
}

// take is the next bytes, so many, or as many as there are.
func (r *reader) take(n int) string {
	taken := r.rest[:min(n, len(r.rest))]
	r.rest = r.rest[len(taken):]
	return taken
}

func (r *reader) number() int {
	n := 0
	for shift := 0; shift < mostBits; shift += bitsOfByte {
		b := r.take(1)
		if b == "" {
			break
		}
		n |= int(b[0]&mostOfByte) << shift
		if b[0] < goesOn {
			break
		}
	}
	return n
}

// count is how long a list says it is.
func (r *reader) count(most int) int { return min(r.number(), most) }

func (r *reader) text() string { return r.take(r.number()) }

func (r *reader) texts(most int) []string {
	var out []string
	for range r.count(most) {
		out = append(out, r.text())
	}
	return out
}

func (r *reader) store() *Store {
	s := &Store{boxes: map[int]*mailbox{}}
	s.first, s.validity, s.last = r.number(), r.number(), r.number()
	letters := r.letters()
	for range r.count(api.MaxBoxes) {
		name, validity := r.text(), r.number()
		b := &mailbox{name: name, next: r.number(), highest: r.number()}
		b.messages = r.messages(letters)
		s.boxes[validity] = b
	}
	s.subs = r.texts(api.MaxSubs)
	return s
}

func (r *reader) letters() []letter {
	var out []letter
	for range r.count(api.MaxBoxes * api.MaxMails) {
		out = append(out, letter{r.number(), r.text()})
	}
	return out
}

func (r *reader) messages(letters []letter) []message {
	var out []message
	for range r.count(api.MaxMails) {
		m := message{uid: r.number(), modseq: r.number(), origin: r.number()}
		if at, is := slices.BinarySearchFunc(letters, letter{origin: m.origin}, compareLetters); is {
			m.body = letters[at].body
		}
		m.date = r.date()
		m.flagSet = flagSet{r.number(), r.texts(api.MaxKeywords)}
		out = append(out, m)
	}
	return out
}

func (r *reader) date() api.Moment {
	var m api.Moment
	for _, n := range plainFields(&m) {
		*n = r.number()
	}
	m.Zone = r.number() - zoneShift
	return m
}

// isSound tells whether all holds of a store that was read that holds of every store; its lists are short enough.
func (s *Store) isSound() bool {
	if !isNumber(s.first) || !isNumber(s.last) || s.validity > api.MaxNumber || !s.has(inbox) || !areNames(s.subs) {
		return false
	}
	var names []string
	for _, validity := range s.inOrder() {
		b := s.boxes[validity]
		if validity < 1 || validity >= s.validity || len(s.lacking(b.name)) > 0 || b.highest > s.last || !b.isSound() {
			return false
		}
		names = append(names, b.name)
	}
	return areNames(names)
}

// areNames tells whether texts are names as they are written when they are handed in, and rise.
func areNames(texts []string) bool {
	for _, text := range texts {
		if !isName(text) {
			return false
		}
	}
	return rise(texts, strings.Compare)
}

// rise tells whether each of a list stands above the one ahead of it.
func rise[E any](list []E, compare func(a, b E) int) bool {
	for i := 1; i < len(list); i++ {
		if compare(list[i-1], list[i]) >= 0 {
			return false
		}
	}
	return true
}

func (b *mailbox) isSound() bool {
	if b.next < 1 || b.next > api.MaxNumber || b.highest < 1 || knowsTooMany(b.messages) {
		return false
	}
	words := known(b.messages)
	for _, m := range b.messages {
		if m.uid < 1 || m.uid >= b.next || m.modseq > b.highest || !m.isSound() || !m.equal(m.spelled(words)) {
			return false
		}
	}
	return rise(b.messages, func(m, n message) int { return m.uid - n.uid })
}

func (m message) isSound() bool {
	form, code := event.Flags(m.words)
	isForm := code == api.OK && slices.Equal(form, m.words) && setOf(form).system == 0 && m.system <= allSystem
	return isForm && m.origin >= leastEvent && m.origin <= m.modseq && isDate(m.date) && len(m.body) <= api.MaxLiteral
}

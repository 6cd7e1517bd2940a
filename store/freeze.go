package store

import (
	"cmp"
	"slices"

	"postbag/api"
)

const (
	bitsOfByte = 7
	mostOfByte = 1<<bitsOfByte - 1
	goesOn     = 1 << bitsOfByte // of each byte of a number but the last

	zoneShift = 1440 // makes every zone a number that can be written
)

// letter is a body under its origin.
type letter struct {
	origin int
	body   string
}

func compareLetters(a, b letter) int { return cmp.Compare(a.origin, b.origin) }

// Freeze writes all of it.
func (s *Store) Freeze() string {
	if s.isNothing() {
		return ""
	}
	out := appendNumbers(nil, s.first, s.validity, s.last)
	out = appendLetters(out, s.letters())
	out = appendNumbers(out, len(s.boxes))
	for _, validity := range s.inOrder() {
		b := s.boxes[validity]
		out = appendText(out, b.name)
		out = appendNumbers(out, validity, b.next, b.highest)
		out = appendMessages(out, b.messages)
	}
	return string(appendTexts(out, s.subs))
}

// letters are the bodies of all messages, each origin once, rising.
func (s *Store) letters() []letter {
	var out []letter
	for _, b := range s.boxes {
		for _, m := range b.messages {
			out = append(out, letter{m.origin, m.body})
		}
	}
	slices.SortFunc(out, compareLetters)
	return slices.CompactFunc(out, func(a, b letter) bool { return a.origin == b.origin })
}

func appendLetters(out []byte, letters []letter) []byte {
	out = appendNumbers(out, len(letters))
	for _, l := range letters {
		out = appendText(appendNumbers(out, l.origin), l.body)
	}
	return out
}

func appendMessages(out []byte, messages []message) []byte {
	out = appendNumbers(out, len(messages))
	for _, m := range messages {
		out = appendNumbers(out, m.uid, m.modseq, m.origin)
		out = appendDate(out, m.date)
		out = appendTexts(appendNumbers(out, m.system), m.words)
	}
	return out
}

func appendDate(out []byte, date api.Moment) []byte {
	for _, n := range plainFields(&date) {
		out = appendNumbers(out, *n)
	}
	return appendNumbers(out, date.Zone+zoneShift)
}

// plainFields are those of a moment that are written as they are.
func plainFields(m *api.Moment) [6]*int {
	return [...]*int{&m.Year, &m.Month, &m.Day, &m.Hour, &m.Minute, &m.Second}
}

func appendTexts(out []byte, texts []string) []byte {
	out = appendNumbers(out, len(texts))
	for _, text := range texts {
		out = appendText(out, text)
	}
	return out
}

func appendText(out []byte, text string) []byte {
	return append(appendNumbers(out, len(text)), text...)
}

func appendNumbers(out []byte, numbers ...int) []byte {
	for _, n := range numbers {
		for n > mostOfByte {
			out = append(out, byte(n&mostOfByte|goesOn))
			n >>= bitsOfByte
		}
		out = append(out, byte(n))
	}
	return out
}

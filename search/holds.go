package search

import (
	"slices"
	"strings"

	"postbag/api"
	"postbag/letter"
	"postbag/moment"
	"postbag/octet"
	"postbag/span"
)

// Holds tells whether a key holds for a message.
func Holds(k api.Key, m api.Mail, last api.Last) bool {
	s := sight{table: byKind(), mail: m, last: last}
	return s.table.check(&k) == api.OK && s.holds(&k)
}

// sight is what keys are held against.
type sight struct {
	table kinds
	mail  api.Mail
	last  api.Last
}

func (s *sight) holds(k *api.Key) bool {
	r, _ := s.table.of(k)
	return r.holds(s, k)
}

func (s *sight) lacks(k api.Key) bool { return !s.holds(&k) }

func allHold(s *sight, k *api.Key) bool { return !slices.ContainsFunc(k.Kids, s.lacks) }

func someHold(s *sight, k *api.Key) bool { return s.holds(&k.Kids[0]) || s.holds(&k.Kids[1]) }

func lacksKid(s *sight, k *api.Key) bool { return s.lacks(k.Kids[0]) }

func always(*sight, *api.Key) bool { return true }

func hasSeq(s *sight, k *api.Key) bool { return span.Has(k.Set, s.mail.Seq, s.last.Seq) }

func hasUid(s *sight, k *api.Key) bool { return span.Has(k.Set, s.mail.Uid, s.last.Uid) }

func (s *sight) flagged(flag string) bool {
	return slices.ContainsFunc(s.mail.Flags, func(f string) bool { return octet.Same(f, flag) })
}

func hasFlag(s *sight, k *api.Key) bool { return s.flagged(k.Text) }

func lacksFlag(s *sight, k *api.Key) bool { return !s.flagged(k.Text) }

func isRecent(s *sight, _ *api.Key) bool { return s.mail.Recent }

func isNew(s *sight, _ *api.Key) bool { return s.mail.Recent && !s.flagged(seen) }

func isOld(s *sight, _ *api.Key) bool { return !s.mail.Recent }

func isIn(text, part string) bool { return strings.Contains(octet.Lower(text), octet.Lower(part)) }

func (s *sight) fields() []api.Field {
	head, _ := letter.Split(s.mail.Raw)
	return letter.Fields(head)
}

func (s *sight) hasField(name, part string) bool {
	return slices.ContainsFunc(s.fields(), func(f api.Field) bool { return octet.Same(f.Name, name) && isIn(f.Value, part) })
}

func inField(name string) func(*sight, *api.Key) bool {
	return func(s *sight, k *api.Key) bool { return s.hasField(name, k.Text) }
}

func inHeader(s *sight, k *api.Key) bool { return s.hasField(k.Field, k.Text) }

func inBody(s *sight, k *api.Key) bool {
	_, body := letter.Split(s.mail.Raw)
	return isIn(body, k.Text)
}

func inWhole(s *sight, k *api.Key) bool { return isIn(s.mail.Raw, k.Text) }

// ofDay holds a day of a message, if there is one, against that of a key.
func ofDay(dayOf func(*sight) (int, bool), fits func(day, asked int) bool) func(*sight, *api.Key) bool {
	return func(s *sight, k *api.Key) bool {
		day, is := dayOf(s)
		return is && fits(day, moment.Days(k.Day))
	}
}

func came(s *sight) (int, bool) { return moment.Days(s.mail.Date), moment.Valid(s.mail.Date) }

func sent(s *sight) (int, bool) {
	// A field that is missing is refused as an empty one is.
	date, e := moment.ReadHeader(letter.Get(s.fields(), "Date").S)
	return moment.Days(date), e == api.OK
}

func isAhead(day, asked int) bool { return day < asked }

func isEqual(day, asked int) bool { return day == asked }

func isNotAhead(day, asked int) bool { return day >= asked }

func isLarger(s *sight, k *api.Key) bool { return len(s.mail.Raw) > k.Num }

func isSmaller(s *sight, k *api.Key) bool { return len(s.mail.Raw) < k.Num }

func isTouched(s *sight, k *api.Key) bool { return s.mail.Modseq >= k.Num }

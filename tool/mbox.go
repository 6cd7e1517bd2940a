package tool

import (
	"slices"
	"strconv"
	"strings"

	"postbag/api"
	"postbag/moment"
	"postbag/store"
)

const dateSize = 26

// mailsIn is the messages of a mailbox that is there.
func mailsIn(s *store.Store, box api.BoxSight) []api.Mail {
	mails, _ := s.Mails(box.Validity)
	return mails
}

// headOf is the line ahead of a message's bytes.
func headOf(m api.Mail) string {
	date, _ := moment.PrintInternal(m.Date)
	words := append([]string{"From", strconv.Itoa(len(m.Raw)), date}, m.Flags...)
	return strings.Join(words, " ")
}

// mailsOf reads the messages of a mailbox's text; false: it is none.
func mailsOf(text string) ([]api.Mail, bool) {
	var out []api.Mail
	for text != "" {
		m, is := mailAt(text)
		if !is {
			return nil, false
		}
		rest, is := strings.CutPrefix(text, lines(headOf(m), m.Raw)) // it was read loosely
		if !is {
			return nil, false
		}
		out = append(out, m)
		text = rest
	}
	return out, true
}

// mailAt reads the message at a text's begin; what it reads may be written otherwise there.
func mailAt(text string) (api.Mail, bool) {
	head, rest, _ := strings.Cut(text, "\n")
	words := strings.SplitN(head, " ", 3) // a date may begin with a blank, and has others
	if len(words) < 3 || len(words[2]) < dateSize {
		return api.Mail{}, false
	}
	size, err := strconv.Atoi(words[1])
	if err != nil || size < 0 || size > min(api.MaxLiteral, len(rest)) {
		return api.Mail{}, false
	}
	date, code := moment.ReadInternal(words[2][:dateSize])
	flags := strings.Split(words[2][dateSize:], " ")[1:]
	if code != api.OK || slices.Contains(flags, "") {
		return api.Mail{}, false
	}
	return api.Mail{Flags: flags, Date: date, Raw: rest[:size]}, true
}

package store

import (
	"iter"
	"strings"

	"postbag/api"
	"postbag/event"
	"postbag/octet"
)

const (
	inbox     = "INBOX"
	separator = "/"
)

// asName is what a text counts as where it is handed in as a name, and whether that is one.
func asName(text string) (string, bool) {
	if first, _, _ := strings.Cut(text, separator); octet.Same(first, inbox) {
		text = inbox + text[len(first):]
	}
	return text, isName(text)
}

// isName asks chapter 11, whose subscriptions have all names there are.
func isName(text string) bool {
	return event.Check(api.Event{Number: leastEvent, Kind: api.EventSubscribe, Name: text}) == api.OK
}

// superiors goes through the names that a name lies below, the shortest one first.
func superiors(name string) iter.Seq[string] {
	return func(yield func(string) bool) {
		for at := range len(name) {
			if strings.HasPrefix(name[at:], separator) && !yield(name[:at]) {
				return
			}
		}
	}
}

func isBelow(name, superior string) bool { return strings.HasPrefix(name, superior+separator) }

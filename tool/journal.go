package tool

import (
	"postbag/api"
	"postbag/event"
	"postbag/moment"
	"postbag/store"
)

// What may be wrong with a journal: the kinds of findings.
const (
	isNothing = iota
	isOld
	isGap
	isUnreadable
	isMisfit
	isRest
)

func finding(kind, where int) api.Finding {
	texts := [...]string{isOld: "old", isGap: "gap", isUnreadable: "unreadable", isMisfit: "misfit", isRest: "rest"}
	return api.Finding{Kind: kind, Where: where, Text: texts[kind]}
}

// take applies a frame's event to a store, if it is the next one, and tells what is wrong with the frame.
func take(s *store.Store, f api.Frame) int {
	next := s.Last() + 1
	if f.Number < next {
		return isOld
	}
	if f.Number > next {
		return isGap
	}
	e, is := eventOf(f)
	if !is {
		return isUnreadable
	}
	if s.Apply(e) != api.OK {
		return isMisfit
	}
	return isNothing
}

// eventOf is the event of a frame; false: it has none.
func eventOf(f api.Frame) (api.Event, bool) {
	if f.Kind != api.FrameEvent {
		return api.Event{}, false
	}
	e, code := event.Decode(f.Body)
	return e, code == api.OK && e.Number == f.Number
}

func frameLine(f api.Frame) string {
	what := "unreadable" + numbers(len(f.Body))
	if e, is := eventOf(f); is {
		what = eventWords(e)
	} else if f.Kind == api.FrameStore {
		what = "store" + numbers(len(f.Body))
	}
	return numbers(f.Number)[1:] + " " + what
}

func eventWords(e api.Event) string {
	kinds := [...]func(e api.Event) string{
		api.EventMake:        func(e api.Event) string { return "make" + newBoxes(e) },
		api.EventDrop:        func(e api.Event) string { return "drop" + numbers(e.Box) },
		api.EventRename:      func(e api.Event) string { return "rename" + numbers(e.Box) + newBoxes(e) },
		api.EventInbox:       func(e api.Event) string { return "inbox" + numbers(e.Box) + newBoxes(e) },
		api.EventAdd:         addWords,
		api.EventFlags:       func(e api.Event) string { return "flags" + numbers(e.Box) + marks(e) },
		api.EventExpunge:     func(e api.Event) string { return "expunge" + numbers(e.Box) + numbers(e.Uids...) },
		api.EventCopy:        func(e api.Event) string { return "copy" + copied(e) },
		api.EventMove:        func(e api.Event) string { return "move" + copied(e) },
		api.EventSubscribe:   func(e api.Event) string { return "subscribe " + quoted(e.Name) },
		api.EventUnsubscribe: func(e api.Event) string { return "unsubscribe " + quoted(e.Name) },
	}
	return kinds[e.Kind](e)
}

func newBoxes(e api.Event) string {
	out := ""
	for i, name := range e.Names {
		out += " " + quoted(name) + numbers(e.Boxes[i])
	}
	return out
}

func addWords(e api.Event) string {
	date, _ := moment.PrintInternal(e.Date)
	return "add" + numbers(e.Box, e.First) + ` "` + date + `" ` + bracketed(e.Marks[0].Flags) + " " + quoted(e.Body)
}

func marks(e api.Event) string {
	out := ""
	for _, m := range e.Marks {
		out += numbers(m.Uid) + " " + bracketed(m.Flags)
	}
	return out
}

func copied(e api.Event) string {
	return numbers(e.Box) + " to" + numbers(e.To) + " at" + numbers(e.First) + numbers(e.Uids...)
}

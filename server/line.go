package server

import (
	"postbag/api"
	"postbag/session"
)

// What may come for a session.
const (
	greeting = iota // its connection begins
	taking          // its client has sent something
	hearing         // another connection has committed an event
	closing         // its connection is cut off
)

// thing is what comes for a session.
type thing struct {
	kind  int
	input api.Input // of taking
	event api.Event // of hearing
}

// told is what a session tells of a thing, and how it stands then.
type told struct {
	answers []api.Answer
	err     error
	isOver  bool
	isIdle  bool
}

// line joins the loop to a connection's goroutine, for the time of one step.
type line struct {
	things chan thing // nil: nothing has come for the connection as yet
	told   chan told
}

// serve is the goroutine: it has ended as soon as nothing more can come.
func (l line) serve(s *session.Session) {
	for x := range l.things {
		l.told <- tell(s, x)
	}
}

func tell(s *session.Session, x thing) told {
	var t told
	switch x.kind {
	case greeting:
		t.answers = s.Greet()
	case taking:
		t.answers, t.err = s.Take(x.input)
	case hearing:
		t.answers = s.Hear(x.event)
	case closing:
		s.Close()
	}
	sight := s.Sight()
	t.isOver, t.isIdle = sight.State == api.StateOver, sight.Idle
	return t
}

package server

import (
	"errors"
	"strings"
	"sync"

	"postbag/answer"
	"postbag/api"
	"postbag/command"
	"postbag/session"
	"postbag/vault"
)

// round is a step that is being played.
type round struct {
	*Server
	lines [api.MaxConns + 1]line // of the connections that something was brought to
	busy  sync.WaitGroup
	sent  []api.Sent
}

// Do plays a step: what is sent to whom, in order.
func (s *Server) Do(x api.Step) ([]api.Sent, api.Errno) {
	if s.isNothing() {
		if s.takes(x.Kind) {
			return nil, api.OK
		}
		return nil, api.ErrStep
	}
	if code := s.check(x); code != api.OK {
		return nil, code
	}
	r := &round{Server: s}
	defer r.end()
	r.play(x)
	return r.sent, api.OK
}

func (r *round) play(x api.Step) {
	switch x.Kind {
	case api.StepOpen:
		r.open(x.Conn)
	case api.StepBytes:
		r.read(x.Conn, x.Bytes)
	case api.StepCut:
		r.cut(x.Conn)
	case api.StepPlan:
		r.disk.Plan(x.Stops)
	case api.StepStart:
		r.start()
	case api.StepCheck:
		r.checkpoint()
	}
}

// bring hands a thing to a connection, and waits for what its session tells of it: meanwhile nothing else happens, so that no run differs from another.
func (r *round) bring(conn int, x thing) told {
	l := &r.lines[conn]
	if l.things == nil {
		*l = line{make(chan thing), make(chan told)}
		r.busy.Add(1)
		go func(l line, s *session.Session) {
			defer r.busy.Done()
			l.serve(s)
		}(*l, r.conns[conn].session)
	}
	l.things <- x
	return <-l.told
}

// end lets every goroutine end: none outlives its step.
func (r *round) end() {
	for _, l := range r.lines {
		if l.things != nil {
			close(l.things)
		}
	}
	r.busy.Wait()
}

func (r *round) open(conn int) {
	r.conns[conn] = client{session.New(r.vault, r.rules), command.New()}
	r.say(conn, r.bring(conn, thing{kind: greeting}))
}

// read does what a connection's bytes amount to, one thing at a time: each is told to all whom it concerns ahead of the next one.
func (r *round) read(conn int, bytes string) {
	c := &r.conns[conn]
	c.reader.Feed(bytes)
things:
	for c.isOpen() {
		in, is := c.reader.Next()
		if !is {
			break
		}
		last := r.vault.Store().Last()
		t := r.bring(conn, thing{kind: taking, input: in})
		switch {
		case errors.Is(t.err, api.WhyDown):
			r.stop()
			break things
		case t.isOver:
			r.say(conn, t)
			*c = client{}
		default:
			r.say(conn, t)
			c.reader.Idle(t.isIdle)
		}
		r.spread(conn, last)
	}
}

// spread tells all but one connection of the events behind a number.
func (r *round) spread(by, last int) {
	for _, e := range r.vault.Since(last) {
		for conn, c := range r.conns {
			if conn != by && c.isOpen() {
				r.say(conn, r.bring(conn, thing{kind: hearing, event: e}))
			}
		}
	}
}

func (r *round) cut(conn int) {
	r.bring(conn, thing{kind: closing})
	r.conns[conn] = client{}
}

// say sends a connection's word.
func (r *round) say(conn int, t told) {
	var text strings.Builder
	for _, a := range t.answers {
		piece, _ := answer.Print(a) // it refuses none that a session tells
		text.WriteString(piece)
	}
	if text.Len() > 0 || t.isOver {
		r.sent = append(r.sent, api.Sent{Conn: conn, Text: text.String(), Closed: t.isOver})
	}
}

// start opens a vault over what has survived; should the machine stop within that, there is none, and it has stopped again.
func (r *round) start() {
	r.disk.Start()
	r.vault, _ = vault.Open(r.disk, r.rules)
}

// checkpoint: without room for it nothing has happened.
func (r *round) checkpoint() {
	var f *api.Fail
	if err := r.vault.Checkpoint(); errors.As(err, &f) && f.Code != api.ErrQuota {
		r.stop()
	}
}

// stop ends every connection: the sessions need not be closed, since their vault is dead.
func (r *round) stop() {
	for conn, c := range r.conns {
		if c.isOpen() {
			r.sent = append(r.sent, api.Sent{Conn: conn, Closed: true})
			r.conns[conn] = client{}
		}
	}
	r.vault = nil
}

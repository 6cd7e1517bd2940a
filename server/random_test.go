package server_test

import (
	"fmt"
	"math"
	"math/rand/v2"
	"reflect"
	"slices"
	"strings"
	"testing"

	"postbag/api"
)

// run is a random script: a machine, one of another make, and a witness of what is sent.
type run struct {
	*machine
	*ideal
	*witness
	r      *rand.Rand
	rules  api.Rules
	queues map[int]string // by connection: bytes that the client has written, and that have not come
	tag    int
	steps  int
	counts map[string]int // how often something happened, so that a run that is about nothing is seen
}

func newRun(t *testing.T, r *rand.Rand, rules api.Rules) *run {
	t.Helper()
	return &run{machine: build(t, rules), ideal: newIdeal(t, rules), witness: newWitness(t), r: r, rules: rules, queues: map[int]string{}, counts: map[string]int{}}
}

// play does a step on both machines, and holds all that can be held behind it.
func (x *run) play(step api.Step) {
	t := x.machine.t
	t.Helper()
	x.steps++
	fail := func(what string, list ...any) {
		t.Helper()
		t.Fatalf("step %d, %.300s: %s", x.steps, fmt.Sprintf("%+v", step), fmt.Sprintf(what, list...))
	}
	want := x.ideal.code(step)
	wasDown := x.Down()
	sent, code := x.Do(step)
	if code != want {
		fail("%d, not %d", code, want)
	}
	if code != api.OK {
		x.counts["refused"]++
		if len(sent) != 0 || x.Down() != wasDown {
			fail("refused, and it sends %q", shown(sent))
		}
		return
	}
	deeds := x.ideal.play(step, sent, x.Down())
	var words []api.Sent
	for _, d := range deeds {
		words = append(words, d.word)
	}
	if !slices.Equal(sent, words) {
		fail("P18.4:\n sent %q\n not  %q", shown(sent), shown(words))
	}
	if step.Kind == api.StepCut {
		delete(x.clients, step.Conn)
	}
	x.witness.turn()
	for _, d := range deeds {
		x.witness.hear(d)
	}
	for conn := range x.queues {
		if x.talks[conn] == nil {
			delete(x.queues, conn)
		}
	}
	x.hold(step, wasDown, fail)
}

// hold is what is so behind every step.
func (x *run) hold(step api.Step, wasDown bool, fail func(string, ...any)) {
	x.machine.t.Helper()
	if x.Down() {
		if !wasDown {
			x.counts["stops"]++
		} else if step.Kind == api.StepStart {
			x.counts["stops in a start"]++
		}
		if x.Store() != nil || len(x.Sessions()) != 0 {
			fail("P18.9: a stopped machine has a store, or sessions")
		}
		return
	}
	if step.Kind == api.StepStart {
		was := len(x.events)
		x.ideal.begin(x.machine)
		x.counts["events that survived unanswered"] += len(x.events) - was
	}
	names, files := x.Files()
	frozen := x.Store().Freeze()
	if onDisk(x.machine.t, x.rules, names, files).Freeze() != frozen {
		fail("P0.9: the files hold another store")
	}
	if x.ideal.vault.Store().Freeze() != frozen {
		fail("P0.1: the stores differ")
	}
	var sights []api.SessionSight
	for _, conn := range x.ideal.open() {
		sights = append(sights, x.talks[conn].session.Sight())
	}
	if got := x.Sessions(); len(got) != len(sights) || len(got) > 0 && !reflect.DeepEqual(got, sights) {
		fail("P18.9: %+v, not %+v", got, sights)
	}
	x.witness.look(x.machine, x.ideal.open(), step.Conn)
}

// some is a number of a connection: mostly one that there can be.
func (x *run) some() int {
	if x.r.IntN(60) == 0 {
		return oneOf(x.r, 0, -1, 5, math.MaxInt)
	}
	return 1 + x.r.IntN(api.MaxConns)
}

// write is what a client writes next: one line or some, by how its connection stands.
func (x *run) write(conn int) string {
	sight := x.talks[conn].session.Sight()
	line := func(text string) string {
		x.tag++
		return fmt.Sprintf("t%d %s\r\n", x.tag, text)
	}
	switch {
	case sight.Idle:
		return oneOf(x.r, "DONE\r\n", "done\r\n", "DONE\r\n", "stop\r\n", "DONE\r\n"+line("NOOP"), line("NOOP"), "DONE\r\n"+line(someLine(x.r))+line("IDLE"))
	case sight.State == api.StateFresh:
		return oneOf(x.r, line("LOGIN u p"), line("LOGIN u p"), line("LOGIN u p")+line("SELECT inbox"), line(someLine(x.r)))
	case sight.State == api.StateKnown && x.r.IntN(2) > 0:
		return line(oneOf(x.r, "SELECT inbox", "SELECT inbox", "SELECT a", "EXAMINE inbox")) + oneOf(x.r, "", line("FETCH 1:* (UID FLAGS)"), line("IDLE"))
	case x.r.IntN(80) == 0:
		return oneOf(x.r, "\r\n", "nonsense\r\n", "+ x\r\n", "a\rb NOOP\r\n", "\x00\r\n", "a {4294967296+}\r\n", " x\r\n")
	}
	text := ""
	for range 1 + x.r.IntN(3) {
		text += line(someLine(x.r))
	}
	return text
}

func (x *run) step() {
	x.machine.t.Helper()
	conn := x.some()
	c := x.talks[conn]
	switch n := x.r.IntN(100); {
	case x.Down():
		x.play(oneOf(x.r, start(), start(), start(), open(conn), lines(conn, "a NOOP"), cut(conn), check(), plan(someStops(x.r)...), api.Step{Kind: 9}))
	case n == 0:
		x.play(oneOf(x.r, start(), api.Step{Kind: x.r.IntN(12) - 3, Conn: conn}, open(conn), cut(conn), bytes(conn, longPiece), api.Step{Kind: api.StepPlan, Stops: manyStops}))
	case n == 1:
		x.play(cut(conn))
	case n == 2:
		x.play(check())
	case n < 6:
		x.play(plan(someStops(x.r)...))
	case c == nil:
		x.play(open(conn))
	default:
		if x.queues[conn] == "" {
			x.queues[conn] = x.write(conn)
		}
		text := x.queues[conn]
		if x.r.IntN(4) == 0 {
			text = text[:x.r.IntN(len(text)+1)]
		}
		x.queues[conn] = x.queues[conn][len(text):]
		x.play(bytes(conn, text))
	}
}

// settle lets every machine start, ends every command that is half written and every IDLE, and asks for the news: then all know what is so.
func (x *run) settle() {
	x.machine.t.Helper()
	x.play(plan())
	if x.Down() {
		x.play(start())
	}
	for _, conn := range x.ideal.open() {
		for range 9 { // a swallowed literal may go on for long: such a connection is cut off below
			if x.talks[conn] != nil && x.talks[conn].reader.Pending() > 0 || x.queues[conn] != "" {
				text := x.queues[conn] + strings.Repeat("\r\n", 200)
				delete(x.queues, conn)
				x.play(bytes(conn, text))
			}
		}
		if c := x.talks[conn]; c != nil && c.reader.Pending() > 0 {
			x.play(cut(conn))
		}
		if c := x.talks[conn]; c != nil && c.session.Sight().Idle {
			x.play(lines(conn, "DONE"))
		}
	}
	for _, conn := range x.ideal.open() {
		x.tag++
		x.play(lines(conn, fmt.Sprintf("t%d NOOP", x.tag)))
	}
}

// P18.12, P0.1, P0.3 to P0.5, P0.9, P0.10, P0.12: long random scripts of several connections with stops and starts.
func TestRandom(t *testing.T) {
	t.Parallel()
	r := rand.New(rand.NewPCG(18, 12))
	counts := map[string]int{}
	for range 90 {
		x := newRun(t, r, someRandomRules(r))
		for i := range 200 {
			x.step()
			if i%60 == 59 {
				x.settle()
			}
		}
		x.settle()
		counts["events"] += len(x.events)
		for what, n := range x.counts {
			counts[what] += n
		}
	}
	t.Log(counts)
	for what, least := range map[string]int{"events": 1500, "stops": 200, "stops in a start": 50, "events that survived unanswered": 30, "refused": 300} {
		if counts[what] < least {
			t.Errorf("%d %s are too few to say something", counts[what], what)
		}
	}
}

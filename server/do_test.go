package server_test

import (
	"fmt"
	"math"
	"strings"
	"testing"

	"postbag/api"
)

var (
	longPiece = strings.Repeat("x", api.MaxPiece+1)
	manyStops = make([]api.Stop, api.MaxSteps+1)
	allKinds  = []int{api.StepOpen, api.StepBytes, api.StepCut, api.StepPlan, api.StepStart, api.StepCheck}
	noKinds   = []int{0, 7, 8, -1, math.MaxInt, math.MinInt}
)

// lengths of a step that are too great, each by itself and both at once.
func tooLong(x api.Step) []api.Step {
	bytes, stops, both := x, x, x
	bytes.Bytes, stops.Stops = longPiece, manyStops
	both.Bytes, both.Stops = longPiece, manyStops
	return []api.Step{bytes, stops, both}
}

// P18.2: each Kind on a machine that runs, by the number of its connection. The numbers 1 and MaxConns are open, the two between are not.
func TestStepsOnRunning(t *testing.T) {
	const yes, conn, step = api.OK, api.ErrConn, api.ErrStep
	numbers := []int{0, 1, 2, api.MaxConns, api.MaxConns + 1, -1, math.MinInt, math.MaxInt}
	for _, c := range []struct {
		kind  int
		codes []api.Errno
	}{
		{api.StepOpen, []api.Errno{conn, conn, yes, conn, conn, conn, conn, conn}},
		{api.StepBytes, []api.Errno{conn, yes, conn, yes, conn, conn, conn, conn}},
		{api.StepCut, []api.Errno{conn, yes, conn, yes, conn, conn, conn, conn}},
		{api.StepPlan, []api.Errno{yes, yes, yes, yes, yes, yes, yes, yes}},
		{api.StepStart, []api.Errno{step, step, step, step, step, step, step, step}},
		{api.StepCheck, []api.Errno{yes, yes, yes, yes, yes, yes, yes, yes}},
	} {
		for i, code := range c.codes {
			m := build(t, someRules())
			m.do(open(1))
			m.do(open(api.MaxConns))
			x := api.Step{Kind: c.kind, Conn: numbers[i]}
			for _, long := range tooLong(x) {
				m.refused(long, api.ErrLong)
			}
			if code != api.OK {
				m.refused(x, code)
			} else if _, got := m.Do(x); got != api.OK {
				t.Errorf("P18.2: %+v: %d", x, got)
			}
		}
	}
}

// P18.2: a Kind that there is not, and every Kind on a machine that has stopped.
func TestStepsOnStopped(t *testing.T) {
	m := entered(t, 2, someRules())
	for _, kind := range noKinds {
		for _, conn := range []int{0, 1, 2, 3, 9} {
			x := api.Step{Kind: kind, Conn: conn}
			m.refused(x, api.ErrStep)
			for _, long := range tooLong(x) {
				m.refused(long, api.ErrLong)
			}
		}
	}
	m.do(plan(stopAt(1, 0, 0)))
	m.want(lines(1, "a CREATE q"), "1 !", "2 !")
	for _, kind := range append(noKinds, allKinds...) {
		for _, conn := range []int{0, 1, 2, 3, api.MaxConns, api.MaxConns + 1} {
			x := api.Step{Kind: kind, Conn: conn}
			for _, long := range tooLong(x) {
				m.refused(long, api.ErrLong)
			}
			switch kind {
			case api.StepPlan:
				m.want(x)
			case api.StepStart: // below: it changes what comes behind it
			default:
				m.refused(x, api.ErrStep)
			}
		}
	}
	m.want(api.Step{Kind: api.StepStart, Conn: 77, Bytes: "a NOOP\r\n", Stops: []api.Stop{stopAt(1, 0, 0)}})
	if m.Down() {
		t.Error("P18.2: a start does not look at what it does not use")
	}
	m.refused(start(), api.ErrStep)
}

// P18.2: what a Kind does not use is not looked at.
func TestUnusedFields(t *testing.T) {
	full := strings.Repeat("x", api.MaxPiece)
	most := make([]api.Stop, api.MaxSteps)
	for i := range most {
		most[i] = stopAt(1, 0, 0)
	}
	m := build(t, someRules())
	m.want(api.Step{Kind: api.StepOpen, Conn: 2, Bytes: "a LOGOUT\r\n" + full[10:], Stops: most}, "2 "+hello)
	m.want(api.Step{Kind: api.StepBytes, Conn: 2, Bytes: "a LOGIN u p\r\nb CREATE q\r\n", Stops: most}, "2 a OK LOGIN done", "2 b OK CREATE done")
	m.want(api.Step{Kind: api.StepCheck, Conn: -5, Bytes: full, Stops: most})
	m.want(lines(2, "c CREATE r"), "2 c OK CREATE done")
	m.want(api.Step{Kind: api.StepCut, Conn: 2, Bytes: "a NOOP\r\n", Stops: most})
	m.enter(1)
	m.want(api.Step{Kind: api.StepPlan, Conn: 1, Bytes: "a LOGOUT\r\n"})
	m.want(lines(1, "a NOOP"), "1 a OK NOOP done")
}

// P18.2: a piece may have MaxPiece bytes, a plan MaxSteps stops.
func TestLongestStep(t *testing.T) {
	m := entered(t, 1, someRules())
	line := "a NOOP\r\n"
	sent := m.do(bytes(1, strings.Repeat(line, api.MaxPiece/len(line))))
	if len(sent) != api.MaxPiece/len(line) {
		t.Errorf("P18.2: %d words", len(sent))
	}
	m.want(bytes(1, strings.Repeat("x", api.MaxPiece)))
	m.want(bytes(1, "\r\n"), "1 * BAD no line")
	most := make([]api.Stop, api.MaxSteps)
	most[api.MaxSteps-1] = stopAt(1, 0, 0)
	m.want(api.Step{Kind: api.StepPlan, Stops: most})
	m.want(lines(1, "a CREATE q"), "1 !")
}

// P18.2: a plan that is refused leaves the one that there is.
func TestRefusedPlan(t *testing.T) {
	m := entered(t, 1, someRules())
	m.do(plan(stopAt(2, 0, 0)))
	m.refused(api.Step{Kind: api.StepPlan, Stops: manyStops}, api.ErrLong)
	m.refused(api.Step{Kind: api.StepPlan, Bytes: longPiece}, api.ErrLong)
	m.want(lines(1, "a CREATE q"), "1 !")
	m.do(start())
	m.wantBoxes("INBOX")
}

// P18.2: bytes that are refused do not come.
func TestRefusedBytes(t *testing.T) {
	m := entered(t, 2, someRules())
	m.want(bytes(1, "a NO"))
	m.refused(bytes(1, longPiece), api.ErrLong)
	m.refused(bytes(3, "x"), api.ErrConn)
	m.refused(api.Step{Kind: 9, Conn: 1, Bytes: "x"}, api.ErrStep)
	m.refused(open(1), api.ErrConn)
	m.want(bytes(1, "OP\r\n"), "1 a OK NOOP done")
	for conn := range api.MaxConns + 2 {
		m.refused(api.Step{Kind: api.StepStart, Conn: conn}, api.ErrStep)
	}
	m.wantStates(api.StateKnown, api.StateKnown)
}

// The chapter's table of examples.
func TestExamples(t *testing.T) {
	m := build(t, someRules())
	m.refused(lines(1, "a NOOP"), api.ErrConn)
	m.want(open(1), "1 "+hello)
	m.refused(open(1), api.ErrConn)
	m.refused(open(5), api.ErrConn)
	m.want(bytes(1, "a NO"))
	m.want(lines(1, "OP"), "1 a OK NOOP done")
	m.want(lines(1, "b LOGIN u p", "c SELECT inbox", "d IDLE"), "1 b OK LOGIN done", selects(1, "c", 0, 0, 1, 1), "1 + idling")
	m.want(open(2), "2 "+hello)
	m.want(lines(2, "a LOGIN u p", "b APPEND inbox {1+}", "x"), "2 a OK LOGIN done", "2 b OK [APPENDUID 1 1] APPEND done", "1 * 1 EXISTS|* 1 RECENT")
	m.want(plan(stopAt(1, 0, 0)))
	m.want(lines(2, "c CREATE q"), "1 !", "2 !")
	if !m.Down() {
		t.Error("Down")
	}
	m.refused(open(1), api.ErrStep)
	m.want(start())
	m.wantStates()
	m.refused(start(), api.ErrStep)
}

func ExampleServer() {
	rules := api.Rules{User: "u", Pass: "p", Quota: 100000, Validity: 1, Uid: 1, Number: 2, Now: now}
	s, err := newServer(rules)
	fmt.Println(err)
	for _, x := range []api.Step{open(1), lines(1, "a LOGIN u p", "b CREATE q"), plan(stopAt(2, 1, 0)), lines(1, "c CREATE r"), start()} {
		sent, code := s.Do(x)
		fmt.Println(code, len(sent), s.Down())
	}
	fmt.Println(len(s.Store().Boxes()))
	// Output:
	// <nil>
	// 0 1 false
	// 0 2 false
	// 0 0 false
	// 0 1 true
	// 0 0 false
	// 3
}

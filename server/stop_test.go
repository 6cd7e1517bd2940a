package server_test

import (
	"fmt"
	"slices"
	"strings"
	"testing"

	"postbag/api"
)

// manners are ways in which an operation may be stopped: how much of it is done, how much survives.
func manners() []api.Stop {
	var out []api.Stop
	for _, part := range []int{0, 1, 5, 99999} {
		for _, rest := range []int{0, 1, 7, 99999} {
			out = append(out, stopAt(0, part, rest))
		}
	}
	return out
}

// P18.8: a stop in the midst of a step with several commands: what was sent ahead of it stays sent, of the command under way nothing is sent, and all that are open are closed, by rising numbers.
func TestStopInTheMidst(t *testing.T) {
	step := lines(2, "a CREATE q", "b NOOP", "c APPEND q "+literal("hello"), "d SUBSCRIBE q", "e NOOP")
	words := []string{"2 a OK CREATE done", "2 b OK NOOP done", "2 c OK [APPENDUID 2 1] APPEND done", "2 d OK SUBSCRIBE done", "2 e OK NOOP done"}
	ahead := []int{0, 0, 2, 2, 3, 3} // of each operation: how many words were sent
	for at := 1; at <= len(ahead); at++ {
		for _, stop := range manners() {
			stop.At = at
			m := entered(t, 4, someRules())
			m.want(cut(3))
			m.want(plan(stop))
			m.want(step, append(slices.Clone(words[:ahead[at-1]]), "1 !", "2 !", "4 !")...)
			if !m.Down() || m.Store() != nil || len(m.Sessions()) != 0 {
				t.Errorf("P18.8: %+v: it goes on", stop)
			}
			m.refused(step, api.ErrStep)
			m.want(start())
			done := (at + 1) / 2 // the events that were committed or under way
			if got := m.Store().Last(); got != done && got != done+1 {
				t.Errorf("P0.3: %+v: the last event is %d", stop, got)
			}
			if isThere := m.Store().Last() == done+1; at%2 == 0 && stop.Part > 0 && !isThere || at%2 == 1 && stop.Rest == 0 && isThere {
				t.Errorf("P18.8: %+v: the last event is %d", stop, m.Store().Last())
			}
		}
	}
	m := entered(t, 4, someRules())
	m.want(plan(stopAt(len(ahead)+1, 0, 0)))
	m.want(step, words...)
	m.want(check(), "1 !", "2 !", "3 !", "4 !")
}

// P18.8: whoever was told ahead of the stop, was told; whoever is over already, is not closed twice.
func TestStopBehindOthers(t *testing.T) {
	m := entered(t, 3, someRules())
	m.done(1, "a SELECT inbox", "b IDLE")
	m.done(3, "a SELECT inbox", "b IDLE")
	m.want(plan(stopAt(3, 0, 0)))
	m.want(lines(2, "a APPEND inbox "+literal("x"), "b APPEND inbox "+literal("y"), "c LOGOUT"),
		"2 a OK [APPENDUID 1 1] APPEND done", "1 * 1 EXISTS|* 1 RECENT", "3 * 1 EXISTS|* 0 RECENT", "1 !", "2 !", "3 !")

	m = entered(t, 2, someRules())
	m.want(lines(1, "a LOGOUT"), "1 * BYE until next time|a OK LOGOUT done!")
	m.want(plan(stopAt(1, 0, 0)))
	m.want(check(), "2 !")

	m = build(t, someRules())
	m.want(plan(stopAt(1, 0, 0)))
	m.want(check())
	if !m.Down() {
		t.Error("P18.6: a machine without connections stops, too")
	}
}

// P18.6: plans take the place of one another; on a stopped machine too.
func TestPlans(t *testing.T) {
	m := entered(t, 1, someRules())
	m.want(plan(stopAt(1, 0, 0)))
	m.want(plan())
	m.done(1, "a CREATE a")
	m.want(plan(stopAt(0, 9, 9), stopAt(-1, 9, 9), stopAt(3, 0, 0)))
	m.want(plan(stopAt(0, 9, 9), stopAt(4, 1, 0)))
	m.done(1, "b CREATE b")
	m.want(lines(1, "c CREATE c"), "1 !")
	m.want(start())
	m.wantBoxes("INBOX", "a", "b", "c")

	m.enter(1)
	m.want(plan(stopAt(1, 0, 0), stopAt(1, 0, 0), stopAt(2, 0, 0), stopAt(1, 0, 0)))
	m.want(lines(1, "a CREATE d"), "1 !")
	for i := range 2 { // Open: Read journal, Sync journal
		m.want(start())
		if !m.Down() {
			t.Errorf("P18.7: start %d met no stop", i)
		}
		m.refused(open(1), api.ErrStep)
	}
	m.want(plan())
	m.want(start())
	m.wantBoxes("INBOX", "a", "b", "c")
	m.enter(1)
	m.done(1, "e CREATE e")
	m.wantLast(5)
}

// P18.6 and P18.9: a plan that is made while the machine is stopped counts from the start on; Files, Store, Sessions and Down count no operation.
func TestWhatCounts(t *testing.T) {
	m := entered(t, 1, someRules())
	m.done(1, "a CREATE a")
	m.want(plan(stopAt(1, 0, 0)))
	m.want(check(), "1 !")
	m.want(plan(stopAt(5, 1, 0)))
	for range 9 {
		m.look()
	}
	m.want(start()) // Remove checkpoint.tmp, Read journal, Sync journal
	for range 9 {
		m.look()
	}
	m.enter(1)
	for _, line := range []string{"b NOOP", `c LIST "" *`, "d CREATE a", "e SELECT a", "f CLOSE", "g STATUS a (MESSAGES)", "h SUBSCRIBE q", "i IDLE", "DONE"} {
		m.do(lines(1, line))
		m.look()
	}
	m.want(cut(1))
	m.enter(1)
	m.enter(2)
	if m.Down() {
		t.Fatal("P18.9: something was counted that is no operation")
	}
	m.want(lines(2, "j CREATE b"), "1 !", "2 !") // Append, and Sync: the fifth one, which is done
	m.look()
	m.want(start())
	m.wantBoxes("INBOX", "a", "b")
}

// P18.6: a checkpoint is written, or there is no room for it: then nothing happens.
func TestCheckpoint(t *testing.T) {
	m := entered(t, 2, someRules())
	m.done(1, "a CREATE q", "b SELECT q")
	m.done(2, "a SELECT q", "b IDLE")
	was := m.look()
	m.want(check())
	is := m.look()
	if is.frozen != was.frozen || fmt.Sprint(is.sessions) != fmt.Sprint(was.sessions) || !slices.Equal(is.names, []string{"checkpoint", "journal"}) || is.files[1] != "" {
		t.Errorf("P18.6: %q", is.names)
	}
	if onDisk(t, someRules(), is.names, is.files).Freeze() != is.frozen {
		t.Error("P18.6: the checkpoint is another store")
	}
	m.want(check())
	m.want(lines(1, "c APPEND q "+literal("x")), "1 * 1 EXISTS|* 1 RECENT|c OK [APPENDUID 2 1] APPEND done", "2 * 1 EXISTS|* 0 RECENT")

	for quota := 1; quota < 400; quota += 3 {
		rules := someRules()
		rules.Quota = quota
		m := entered(t, 1, rules)
		was := m.look()
		m.want(check())
		is := m.look()
		frozen := len(was.frozen) + 18
		if hasOne := len(is.names) > 0; is.down || is.frozen != was.frozen || hasOne != (frozen <= quota) {
			t.Errorf("P18.6: %d bytes of %d: down %v, %q", frozen, quota, is.down, is.names)
		}
		m.want(lines(1, "a NOOP"), "1 a OK NOOP done")
	}
}

// P18.6: a checkpoint without room does no operation, so it meets no stop.
func TestNoRoomNoStop(t *testing.T) {
	rules := someRules()
	rules.Quota = 10
	m := entered(t, 1, rules)
	m.want(plan(stopAt(1, 0, 0)))
	m.want(check())
	m.want(lines(1, "a NOOP"), "1 a OK NOOP done")
}

// P18.6, P18.8: a checkpoint that meets a stop, at each of its operations and in every manner.
func TestStopInCheckpoint(t *testing.T) {
	for at := 1; at <= 4; at++ {
		for _, stop := range manners() {
			for _, isFirst := range []bool{true, false} {
				m := entered(t, 2, someRules())
				m.done(1, "a CREATE q", "b APPEND q "+literal("hello"))
				if !isFirst {
					m.want(check())
					m.done(1, "c APPEND q "+literal("again"), `d SELECT q`, `e STORE 1 FLAGS (\Seen)`)
				}
				frozen := m.Store().Freeze()
				stop.At = at
				m.want(plan(stop))
				m.want(check(), "1 !", "2 !")
				m.want(start())
				if m.Down() || m.Store().Freeze() != frozen {
					t.Errorf("P0.3: %+v: the store is another one", stop)
				}
				if slices.Contains(m.look().names, "checkpoint.tmp") {
					t.Errorf("P18.7: %+v: half a checkpoint is left", stop)
				}
				m.enter(1)
				m.done(1, "z CREATE z")
			}
		}
	}
}

// P18.4, P18.8: a checkpoint that is written by itself behind a commit, and one that makes room for it, meet stops.
func TestStopInOwnCheckpoint(t *testing.T) {
	for at := 3; at <= 6; at++ {
		for _, stop := range manners() {
			rules := someRules()
			rules.Every = 1
			m := entered(t, 2, rules)
			stop.At = at
			m.want(plan(stop))
			m.want(lines(1, "a CREATE q", "b NOOP"), "1 !", "2 !")
			m.want(start())
			m.wantBoxes("INBOX", "q") // it was durable, though it was not answered
		}
	}
	for at := 1; at <= 6; at++ {
		for _, stop := range manners() {
			rules := someRules()
			rules.Quota = api.Reserve + 300
			m := entered(t, 2, rules)
			m.done(1, "a APPEND inbox "+literal(strings.Repeat("x", 200)), "b SELECT inbox", `c STORE 1 FLAGS (\Deleted)`, "d EXPUNGE")
			stop.At = at
			m.want(plan(stop))
			m.want(lines(1, "e APPEND inbox "+literal(strings.Repeat("y", 150))), "1 !", "2 !")
			m.want(start())
			box, _ := m.Store().Box("INBOX")
			if last := m.Store().Last(); last != 4 && (last != 5 || at < 5) || box.Count != last-4 || box.Next != 2+box.Count {
				t.Errorf("P0.3: %+v: %+v", stop, box)
			}
		}
	}
}

// P18.7: a start that meets a stop has stopped again, at each operation and in every manner; starts one behind the other, and what they tell, stays.
func TestStopInStart(t *testing.T) {
	for at := 1; at <= 5; at++ {
		for _, first := range manners() {
			for _, again := range []api.Stop{stopAt(at, 0, 0), stopAt(at, 1, 0), stopAt(at, 9, 9)} {
				m := entered(t, 1, someRules())
				m.done(1, "a CREATE q")
				m.want(check())
				m.done(1, "b CREATE r")
				first.At = 3
				m.want(plan(first, again, again))
				m.want(lines(1, "c CREATE s", "d CREATE t"), "1 c OK CREATE done", "1 !")
				starts := 0
				for m.Down() && starts < 9 {
					if m.Store() != nil || len(m.Sessions()) != 0 {
						t.Error("P18.7: a stopped machine has a store")
					}
					m.want(start())
					starts++
				}
				if got := strings.Join(m.boxes(), " "); got != "INBOX q r s" && got != "INBOX q r s t" {
					t.Errorf("P0.3: %+v, %+v: %s", first, again, got)
				}
				m.stays()
			}
		}
	}
}

// stays holds that starting again at once changes nothing: neither the store, nor a byte of the files.
func (m *machine) stays() {
	m.t.Helper()
	was := m.look()
	for range 2 {
		m.want(plan(stopAt(1, 0, 0)))
		sent := m.do(check())
		for _, w := range sent {
			if !w.Closed || w.Text != "" {
				m.t.Errorf("P18.8: %+v", w)
			}
		}
		m.want(start())
		is := m.look()
		is.sessions, was.sessions = nil, nil
		if fmt.Sprint(is) != fmt.Sprint(was) {
			m.t.Errorf("P0.3: starting again: %.300s, not %.300s", fmt.Sprint(is), fmt.Sprint(was))
		}
	}
}

// P18.7: behind a start nobody is there, nothing is held, and nothing is recent.
func TestBehindAStart(t *testing.T) {
	m := entered(t, 3, someRules())
	m.done(1, "a CREATE q", "b APPEND q "+literal("x"), "c SELECT q", "d IDLE")
	m.want(bytes(2, "half a li"))
	m.want(bytes(3, "a APPEND q {9}\r\n"), "3 + go ahead")
	m.want(plan(stopAt(1, 0, 0)))
	m.want(check(), "1 !", "2 !", "3 !")
	m.want(start())
	m.wantStates()
	for conn := 1; conn <= 4; conn++ {
		m.refused(lines(conn, "a NOOP"), api.ErrConn)
		m.refused(cut(conn), api.ErrConn)
		m.want(open(conn), fmt.Sprint(conn, " ", hello))
		m.want(lines(conn, "a SELECT q"), fmt.Sprint(conn, " a BAD not now"))
	}
	m.want(lines(2, "b LOGIN u p", "c STATUS q (RECENT MESSAGES)", "d DELETE q"), "2 b OK LOGIN done", "2 * STATUS q (RECENT 0 MESSAGES 1)|c OK STATUS done", "2 d OK DELETE done")
}

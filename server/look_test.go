package server_test

import (
	"fmt"
	"reflect"
	"slices"
	"strings"
	"testing"

	"postbag/api"
	"postbag/server"
)

// P18.9: Down, Store, Sessions and Files behind every kind of step.
func TestLooks(t *testing.T) {
	m := build(t, someRules())
	look := func(what string, last int, names []string, states ...int) {
		t.Helper()
		is := m.look()
		if is.down != (last < 0) || !is.down && m.Store().Last() != last || !slices.Equal(is.names, names) {
			t.Errorf("P18.9: %s: down %v, files %q", what, is.down, is.names)
		}
		m.wantStates(states...)
		if !is.down && onDisk(t, someRules(), is.names, is.files).Freeze() != is.frozen {
			t.Errorf("P18.9: %s: the files hold another store", what)
		}
	}
	journal, both, all := []string{"journal"}, []string{"checkpoint", "journal"}, []string{"checkpoint", "checkpoint.tmp", "journal"}
	look("new", 1, nil)
	m.do(open(2))
	look("open", 1, nil, api.StateFresh)
	m.enter(1)
	look("bytes", 1, nil, api.StateKnown, api.StateFresh)
	m.do(lines(1, "a CREATE q", "b SELECT q"))
	look("bytes", 2, journal, api.StateSelected, api.StateFresh)
	m.do(cut(2))
	look("cut", 2, journal, api.StateSelected)
	m.do(check())
	look("check", 2, both, api.StateSelected)
	m.do(plan(stopAt(1, 3, 3), stopAt(1, 0, 0)))
	look("plan", 2, both, api.StateSelected)
	store := m.Store()
	if m.Store() != store {
		t.Error("P18.9: Store is the vault's own")
	}
	m.do(check())
	look("a stop", -1, all)
	if names, files := m.Files(); files[slices.Index(names, "checkpoint.tmp")] == "" {
		t.Error("P18.9: what has survived is to be seen")
	}
	m.do(start())
	look("a stop in a start", -1, all)
	m.do(plan())
	look("a plan on a stopped machine", -1, all)
	m.do(start())
	look("start", 2, both)
	m.enter(4)
	m.do(lines(4, "a LOGOUT"))
	look("LOGOUT", 2, both)
}

// P18.9: Sessions tell each as it stands, by the numbers of the connections.
func TestSessions(t *testing.T) {
	m := build(t, someRules())
	for _, conn := range []int{4, 2, 1} {
		m.enter(conn)
	}
	m.done(4, "a APPEND inbox "+literal("x"), "b APPEND inbox "+literal("y"), "c EXAMINE inbox")
	m.done(1, "a SELECT inbox", "b IDLE")
	m.do(open(3))
	want := []api.SessionSight{
		{State: api.StateSelected, Box: 1, Idle: true, Uids: []int{1, 2}},
		{State: api.StateKnown},
		{State: api.StateFresh},
		{State: api.StateSelected, Box: 1, ReadOnly: true, Uids: []int{1, 2}},
	}
	got := m.Sessions()
	for i := range got {
		if len(got[i].Uids) == 0 {
			got[i].Uids = nil
		}
	}
	if !reflect.DeepEqual(got, want) {
		t.Errorf("P18.9: %+v", got)
	}
}

// P18.10: a nil and a zero Server have stopped for ever.
func TestNothing(t *testing.T) {
	for _, s := range []*server.Server{nil, {}, new(server.Server)} {
		m := &machine{s, t}
		for _, kind := range append(noKinds, allKinds...) {
			want := api.ErrStep
			if kind == api.StepPlan || kind == api.StepStart {
				want = api.OK
			}
			for _, conn := range []int{-1, 0, 1, api.MaxConns, api.MaxConns + 1} {
				x := api.Step{Kind: kind, Conn: conn}
				for _, y := range append(tooLong(x), x) {
					if sent, code := m.Do(y); len(sent) != 0 || code != want {
						t.Errorf("P18.10: %d: %q, %d", kind, shown(sent), code)
					}
					names, files := m.Files()
					if !m.Down() || m.Store() != nil || len(m.Sessions())+len(names)+len(files) != 0 {
						t.Errorf("P18.10: behind %d", kind)
					}
				}
			}
		}
	}
}

// P18.11: a number that is opened again is a new connection.
func TestOpenAgain(t *testing.T) {
	ends := map[string]func(m *machine){
		"LOGOUT": func(m *machine) { m.do(bytes(1, "DONE\r\nz LOGOUT\r\nz NOOP\r\nz CREATE {9}\r\n")) },
		"BYE":    func(m *machine) { m.do(bytes(1, "x\r\nz {9999999999+}\r\n")) },
		"cut":    func(m *machine) { m.do(bytes(1, "DONE\r\nz CREATE {9+}\r\n")); m.do(cut(1)) },
		"a stop": func(m *machine) { m.do(plan(stopAt(1, 0, 0))); m.do(check()); m.do(start()) },
	}
	for what, ends := range ends {
		m := entered(t, 1, someRules())
		m.done(1, "a APPEND inbox "+literal("x"), "b ENABLE CONDSTORE", "c SELECT inbox", "d IDLE")
		ends(m)
		m.wantStates()
		m.want(open(1), "1 "+hello)
		m.wantStates(api.StateFresh)
		m.want(lines(1, "a NOOP", "b SELECT inbox", "c LOGIN u p", "d NOOP"), "1 a OK NOOP done", "1 b BAD not now", "1 c OK LOGIN done", "1 d OK NOOP done")
		m.done(1, "e SELECT inbox")
		m.want(lines(1, `f STORE 1 FLAGS (\Seen)`), `1 * 1 FETCH (FLAGS (\Seen))|f OK STORE done`)
		if t.Failed() {
			t.Fatal(what)
		}
	}
}

// P18.11: two servers in turns are as each by itself.
func TestTwoServers(t *testing.T) {
	script := func(k int) []api.Step {
		return []api.Step{
			open(1), open(2), lines(1, "a LOGIN u p", "b CREATE "+strings.Repeat("q", k)), lines(2, "a LOGIN u p", "b SELECT inbox", "c IDLE"),
			lines(1, "c APPEND inbox "+literal(strings.Repeat("x", 5*k))), bytes(1, "d APP"), check(), plan(stopAt(k, 1, k)), bytes(1, "END inbox {1+}\r\nx\r\n"), lines(2, "DONE"),
			start(), lines(2, "DONE"), open(1), plan(), start(), open(1), lines(1, "e LOGIN u p", `f LIST "" *`, "g STATUS inbox (MESSAGES UIDNEXT)"),
		}
	}
	play := func(machines ...*machine) [][]string {
		out := make([][]string, len(machines))
		for i := range script(1) {
			for k, m := range machines {
				sent, code := m.Do(script(k + 1)[i])
				out[k] = append(out[k], fmt.Sprint(code, shown(sent), m.look()))
			}
		}
		return out
	}
	both := play(build(t, someRules()), build(t, someRules()))
	first := play(build(t, someRules()))
	if !slices.Equal(first[0], both[0]) {
		t.Errorf("P18.11: %q, not %q", both[0], first[0])
	}
	if slices.Equal(both[0], both[1]) {
		t.Error("P18.11: the two scripts are one")
	}
}

// P18.11, W6: what is answered is new memory, what is handed in is not kept.
func TestMemory(t *testing.T) {
	play := func(spoil bool) []string {
		m := build(t, someRules())
		var out []string
		over := func() {
			if !spoil {
				return
			}
			names, files := m.Files()
			names, files = names[:cap(names)], files[:cap(files)]
			for i := range names {
				names[i] = "spoilt"
			}
			for i := range files {
				files[i] = "spoilt"
			}
			sights := m.Sessions()
			for _, s := range sights[:cap(sights)] {
				for i := range s.Uids[:cap(s.Uids)] {
					s.Uids[:cap(s.Uids)][i] = -7
				}
			}
			clear(sights[:cap(sights)])
		}
		do := func(x api.Step) {
			over()
			spare := append(slices.Clone(x.Stops), stopAt(77, 77, 77))
			x.Stops = spare[:len(spare)-1]
			sent, code := m.Do(x)
			out = append(out, fmt.Sprint(code, sent, m.look()))
			if spare[len(spare)-1] != stopAt(77, 77, 77) {
				t.Error("W6: the spare room is written over")
			}
			if spoil {
				clear(sent[:cap(sent)])
				for i := range spare {
					spare[i] = stopAt(1, 9, 9)
				}
			}
			over()
		}
		do(open(1))
		do(open(2))
		do(lines(1, "a LOGIN u p", "b SELECT inbox", "c APPEND inbox "+literal("x"), "d APPEND inbox "+literal("y")))
		do(lines(2, "a LOGIN u p", "b SELECT inbox", "c IDLE"))
		do(plan(stopAt(5, 0, 0), stopAt(2, 0, 0), stopAt(9, 0, 0)))
		do(lines(1, `e STORE 1 FLAGS (\Deleted)`, "f EXPUNGE", "g NOOP"))
		do(check())
		do(start())
		do(start())
		do(open(2))
		do(lines(2, "a LOGIN u p", "b SELECT inbox", "c CREATE q"))
		return out
	}
	if plain, spoilt := play(false), play(true); !slices.Equal(plain, spoilt) {
		t.Errorf("P18.11: %q, not %q", spoilt, plain)
	}
}

// P18.11, W6: no two answers share memory, not even their spare room.
func TestAnswersShareNothing(t *testing.T) {
	m := entered(t, 2, someRules())
	m.done(1, "a APPEND inbox "+literal("x"), "b SELECT inbox")
	m.done(2, "a SELECT inbox")
	one, two := m.Sessions(), m.Sessions()
	for _, s := range slices.Concat(one, two) {
		copy(s.Uids, []int{9})
	}
	for i, s := range m.Sessions() {
		if !slices.Equal(s.Uids, []int{1}) {
			t.Errorf("W6: %d: %v", i, s.Uids)
		}
	}
	one[0].Uids = append(one[0].Uids[:0], 5)
	if one[1].Uids[0] != 9 || two[0].Uids[0] != 9 {
		t.Error("W6: two lists share memory")
	}
	names, files := m.Files()
	again, bytes := m.Files()
	clear(names)
	clear(files)
	if again[0] != "journal" || bytes[0] == "" {
		t.Error("W6: two answers of Files share memory")
	}
	sent := m.do(lines(1, "c NOOP", "d NOOP"))
	other := m.do(lines(1, "e NOOP"))
	if len(other) != 1 || sent[0].Text != "c OK NOOP done\r\n" || sent[1].Text != "d OK NOOP done\r\n" {
		t.Errorf("W6: %q, %q", shown(sent), shown(other))
	}
}

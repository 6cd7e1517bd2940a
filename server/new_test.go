package server_test

import (
	"errors"
	"fmt"
	"math"
	"strings"
	"testing"

	"postbag/api"
	"postbag/server"
)

// wantRefused holds P18.1's error: all that the Fail tells.
func wantRefused(t *testing.T, what string, rules api.Rules, code api.Errno) {
	t.Helper()
	s, err := server.New(rules)
	f, is := err.(*api.Fail)
	if s != nil || !is {
		t.Errorf("P18.1: %s: %v, %v", what, s, err)
		return
	}
	if *f != (api.Fail{Op: "new", Code: code, Why: api.WhyRefused}) || !errors.Is(err, api.WhyRefused) {
		t.Errorf("P18.1: %s: %+v, not %d", what, *f, code)
	}
	f.Code = 0
	if _, again := server.New(rules); again.(*api.Fail).Code != code {
		t.Errorf("P18.1: %s: two errors share memory", what)
	}
}

// P18.1: each number just within and just beyond its bounds.
func TestNumbersOfRules(t *testing.T) {
	for _, c := range []struct {
		what        string
		least, most int
		at          func(r *api.Rules) *int
	}{
		{"Quota", 1, api.MaxDisk, func(r *api.Rules) *int { return &r.Quota }},
		{"Validity", 1, end, func(r *api.Rules) *int { return &r.Validity }},
		{"Uid", 1, end, func(r *api.Rules) *int { return &r.Uid }},
		{"Number", 2, end, func(r *api.Rules) *int { return &r.Number }},
		{"Every", 0, api.MaxNumber, func(r *api.Rules) *int { return &r.Every }},
	} {
		for _, n := range []int{c.least, c.least + 1, c.most - 1, c.most} {
			rules := someRules()
			*c.at(&rules) = n
			m := build(t, rules)
			if m.Down() || len(m.Sessions()) != 0 || m.Store().Last() != rules.Number-1 {
				t.Errorf("P18.1: %s %d: no machine that runs", c.what, n)
			}
		}
		for _, n := range []int{c.least - 1, c.most + 1, math.MinInt, math.MaxInt, -c.most} {
			rules := someRules()
			*c.at(&rules) = n
			wantRefused(t, fmt.Sprint(c.what, " ", n), rules, api.ErrNumber)
			rules.Now = api.Moment{}
			wantRefused(t, fmt.Sprint(c.what, " ", n, ", and no Now"), rules, api.ErrNumber)
			rules.User = strings.Repeat("u", api.MaxLiteral+1)
			wantRefused(t, fmt.Sprint(c.what, " ", n, ", no Now, a long User"), rules, api.ErrLong)
		}
	}
}

// P18.1: Now is a moment of chapter 2.
func TestNowOfRules(t *testing.T) {
	good := []api.Moment{
		{Year: 1, Month: 1, Day: 1}, {Year: 9999, Month: 12, Day: 31, Hour: 23, Minute: 59, Second: 59},
		{Year: 2024, Month: 2, Day: 29}, {Year: 2026, Month: 2, Day: 1, Zone: 60},
	}
	for _, m := range good {
		rules := someRules()
		rules.Now = m
		build(t, rules)
	}
	bad := []api.Moment{
		{}, {Year: 2026, Month: 2, Day: 29}, {Year: 0, Month: 1, Day: 1}, {Year: 10000, Month: 1, Day: 1}, {Year: 2026, Month: 13, Day: 1}, {Year: 2026, Month: 2},
		{Year: 2026, Month: 2, Day: 1, Hour: 24}, {Year: 2026, Month: 2, Day: 1, Minute: 60}, {Year: 2026, Month: 2, Day: 1, Second: -1}, {Year: 2026, Month: 2, Day: 1, Zone: math.MaxInt},
	}
	for _, m := range bad {
		rules := someRules()
		rules.Now = m
		wantRefused(t, fmt.Sprintf("%+v", m), rules, api.ErrArg)
		rules.Pass = strings.Repeat("p", api.MaxLiteral+1)
		wantRefused(t, fmt.Sprintf("%+v, and a long Pass", m), rules, api.ErrLong)
	}
	wantRefused(t, "zero rules", api.Rules{}, api.ErrNumber)
}

// P18.1, T15: how long User and Pass may be, and that any bytes may stand there.
func TestUserAndPass(t *testing.T) {
	long := strings.Repeat("x", api.MaxLiteral)
	rules := someRules()
	rules.User, rules.Pass = long, long[1:]+"y"
	m := build(t, rules)
	m.do(open(1))
	m.want(bytes(1, fmt.Sprintf("a LOGIN {%d+}\r\n", len(long))))
	m.want(bytes(1, long))
	m.want(bytes(1, fmt.Sprintf(" {%d+}\r\n", len(long))))
	m.want(lines(1, rules.Pass), "1 a OK LOGIN done")
	rules.Pass = long + "y"
	wantRefused(t, "Pass", rules, api.ErrLong)
	rules.User, rules.Pass = long+"x", ""
	wantRefused(t, "User", rules, api.ErrLong)
	rules.Quota, rules.Every, rules.Now = 0, -1, api.Moment{}
	wantRefused(t, "User, and all else", rules, api.ErrLong)

	for _, c := range []struct{ user, pass, line, want string }{
		{"", "", `a LOGIN "" ""`, "a OK LOGIN done"},
		{"\xff\r\n", `"`, "a LOGIN " + literal("\xff\r\n") + ` "\""`, "a OK LOGIN done"},
		{"u", "p", "a LOGIN U p", "a NO [AUTHENTICATIONFAILED] wrong user or password"},
		{"u\x00", "p", "a LOGIN " + literal("u\x00") + " p", "a BAD no literal"},
	} {
		rules := someRules()
		rules.User, rules.Pass = c.user, c.pass
		m := build(t, rules)
		m.do(open(1))
		m.want(lines(1, c.line), "1 "+c.want)
	}
}

// P18.1: the machine goes by its rules.
func TestRulesHold(t *testing.T) {
	rules := someRules()
	rules.Validity, rules.Uid, rules.Number, rules.Every = 700, 50, 9, 2
	m := entered(t, 1, rules)
	if names, files := m.Files(); len(names)+len(files) != 0 {
		t.Errorf("P18.1: a new machine has %q", names)
	}
	m.want(lines(1, "a STATUS inbox (UIDNEXT UIDVALIDITY HIGHESTMODSEQ)"), "1 * STATUS INBOX (UIDNEXT 50 UIDVALIDITY 700 HIGHESTMODSEQ 8)|a OK STATUS done")
	m.want(lines(1, "b APPEND inbox "+literal("x")), "1 b OK [APPENDUID 700 50] APPEND done")
	if m.file("checkpoint") != "" {
		t.Error("P18.1: a checkpoint ahead of its time")
	}
	m.want(lines(1, "c CREATE q"), "1 c OK CREATE done")
	if m.file("checkpoint") == "" || m.file("journal") != "" {
		t.Error("P18.1: no checkpoint behind Every events")
	}
	m.done(1, "d SELECT inbox")
	m.want(lines(1, "e FETCH 1 INTERNALDATE"), `1 * 1 FETCH (INTERNALDATE " 1-Feb-2026 10:00:00 +0000")|e OK FETCH done`)

	rules = someRules()
	rules.Quota = 1
	m = entered(t, 1, rules)
	m.want(lines(1, "a CREATE q"), "1 a "+isFull)
	rules.Quota = api.Reserve + 100
	m = entered(t, 1, rules)
	m.want(lines(1, "a CREATE q", "b APPEND q "+literal(strings.Repeat("x", 80))), "1 a OK CREATE done", "1 b "+isFull)
}

package play_test

import (
	"errors"
	"fmt"
	"math/rand/v2"
	"reflect"
	"slices"
	"strings"
	"testing"

	"postbag/api"
	"postbag/play"
	"postbag/server"
)

// wantFail holds why a script is not played.
func wantFail(t *testing.T, script string, want api.Fail) {
	t.Helper()
	sent, err := play.Play(script)
	f, is := err.(*api.Fail)
	if len(sent) != 0 || sent != nil || !is || f == nil || *f != want {
		t.Errorf("P20.4: %s: %v, %+v, not %+v", inShort(script), sent, err, want)
		return
	}
	var as *api.Fail
	if !errors.Is(err, want.Why) || !errors.As(err, &as) || *as != want {
		t.Errorf("P20.4: %s: %+v wraps nothing", inShort(script), err)
	}
	for _, why := range []error{api.WhyName, api.WhyMissing, api.WhyQuota, api.WhyDown, api.WhyRefused, api.WhyBroken, api.WhyScript} {
		if errors.Is(err, why) != (why == want.Why) {
			t.Errorf("P20.4: %s: is it %v?", inShort(script), why)
		}
	}
}

func offending(code api.Errno, line int) api.Fail {
	return api.Fail{Op: "parse", Step: line, Code: code, Why: api.WhyScript}
}

// with are some rules, changed.
func with(change func(r *api.Rules)) api.Rules {
	rules := someRules()
	change(&rules)
	return rules
}

// refusedRules are such as no server takes, with the code that it says.
func refusedRules() map[api.Errno][]api.Rules {
	return map[api.Errno][]api.Rules{
		api.ErrNumber: {
			{}, with(func(r *api.Rules) { r.Quota = 0 }), with(func(r *api.Rules) { r.Quota = api.MaxDisk + 1 }), with(func(r *api.Rules) { r.Quota = -1 }), with(func(r *api.Rules) { r.Validity = 0 }), with(func(r *api.Rules) { r.Validity = api.MaxNumber }),
			with(func(r *api.Rules) { r.Uid = 0 }), with(func(r *api.Rules) { r.Uid = api.MaxNumber }), with(func(r *api.Rules) { r.Number = 1 }), with(func(r *api.Rules) { r.Number = api.MaxNumber }), with(func(r *api.Rules) { r.Every = -1 }),
		},
		api.ErrArg: {
			with(func(r *api.Rules) { r.Now = api.Moment{} }), with(func(r *api.Rules) { r.Now.Day = 30 }), with(func(r *api.Rules) { r.Now.Hour = 24 }), with(func(r *api.Rules) { r.Now.Zone = 99999 }),
		},
		api.ErrLong: {
			with(func(r *api.Rules) { r.User = strings.Repeat("u", api.MaxLiteral+1) }), with(func(r *api.Rules) { r.Pass = strings.Repeat("\x00", api.MaxLiteral+1) }), {User: strings.Repeat("u", api.MaxLiteral+1)},
		},
	}
}

// brokenScripts are such as Parse refuses.
func brokenScripts() map[string]api.Fail {
	many := strings.Repeat("open 1\n", api.MaxSteps)
	return map[string]api.Fail{
		"":                                     offending(api.ErrScript, 0),
		"# nothing\n\n":                        offending(api.ErrScript, 0),
		"x":                                    offending(api.ErrScript, 1),
		"\n\nopen 1":                           offending(api.ErrScript, 3),
		head + "open":                          offending(api.ErrScript, 2),
		head + "open 1\n\nline 1 \"a\"\nopen!": offending(api.ErrScript, 5),
		head + head:                            offending(api.ErrScript, 2),
		head + many + "x":                      offending(api.ErrScript, 402),
		head + many + "check":                  offending(api.ErrLong, 402),
		head + "\n" + many + "check\nx":        offending(api.ErrLong, 403),
		strings.Repeat(" ", 262145):            offending(api.ErrLong, 0),
		head + strings.Repeat("\n", 262144):    offending(api.ErrLong, 0),
	}
}

// P20.4: a script that Parse refuses, in each way in which it does.
func TestPlayBroken(t *testing.T) {
	for script, want := range brokenScripts() {
		wantFail(t, script, want)
		if got := parse(script); got.code != want.Code || got.line != want.Step {
			t.Errorf("P20.1: %s: %d at %d", inShort(script), got.code, got.line)
		}
	}
}

// P20.4: rules that server.New refuses: its own error; ahead of it stands Parse's, wherever the line is that offends.
func TestPlayRefused(t *testing.T) {
	for code, list := range refusedRules() {
		for _, rules := range list {
			_, err := server.New(rules)
			f, is := err.(*api.Fail)
			if !is || f.Code != code || f.Op != "new" || f.Why != api.WhyRefused {
				t.Fatalf("P18.1: %v", err)
			}
			text := printed(t, rules)
			wantFail(t, text, *f)
			wantFail(t, text+"open 1\nline 1 \"a NOOP\"\ncheck\n", *f)
			wantFail(t, "\n# x\n"+text+strings.Repeat("start\n", api.MaxSteps), *f)
			wantFail(t, text+"open 1\nx", offending(api.ErrScript, 3))
			wantFail(t, text+"x\n"+text, offending(api.ErrScript, 2))
			wantFail(t, text+strings.Repeat("start\n", api.MaxSteps+1), offending(api.ErrLong, 402))
			wantFail(t, text+strings.Repeat("\n", 262144), offending(api.ErrLong, 0))
		}
	}
}

// wantPlayed holds what is sent, step by step, against a machine that is played by itself.
func wantPlayed(t *testing.T, script string) {
	t.Helper()
	sent, err := play.Play(script)
	p := parse(script)
	_, want, _, refused := slowPlay(p)
	if err != nil || refused != nil || len(sent) != len(p.steps) {
		t.Fatalf("P20.4: %s: %d, %v, %v", inShort(script), len(sent), err, refused)
	}
	for i := range want {
		if !slices.Equal(sent[i], want[i]) {
			t.Errorf("P20.4: step %d, %.200s:\n %+v\nnot\n %+v", i, fmt.Sprintf("%+v", p.steps[i]), sent[i], want[i])
		}
	}
}

// P20.4: scripts by hand: refused steps, stops in the midst.
func TestPlay(t *testing.T) {
	greeting := []api.Sent{{Conn: 1, Text: hello + "\r\n"}}
	said := func(texts ...string) []api.Sent {
		var out []api.Sent
		for _, text := range texts {
			out = append(out, api.Sent{Conn: 1, Text: text + "\r\n"})
		}
		return out
	}
	closed := []api.Sent{{Conn: 1, Closed: true}}
	for _, c := range []struct {
		script string
		want   [][]api.Sent
	}{
		{"", nil},
		{"# x\n\n", nil},
		{"check\nplan\n", [][]api.Sent{nil, nil}},
		{"start\nopen 9\nopen -1\nbytes 1 \"x\"\ncut 1", [][]api.Sent{nil, nil, nil, nil, nil}},
		{"open 1\nopen 1\nline 1 \"a NOOP\"\ncut 1\nline 1 \"b NOOP\"", [][]api.Sent{greeting, nil, said("a OK NOOP done"), nil, nil}},
		{"open 1\nbytes 1 \"a NO\"\nbytes 1 \"OP\\r\"\nbytes 1 \"\\nb NOOP\\x0d\\x0a\"", [][]api.Sent{greeting, nil, nil, said("a OK NOOP done", "b OK NOOP done")}},
		{"open 1\nline 1 \"a LOGOUT\"", [][]api.Sent{greeting, {{Conn: 1, Text: "* BYE until next time\r\na OK LOGOUT done\r\n", Closed: true}}}},
		{"open 1\nline 1 \"a LOGIN u p\"\nplan 2 0 0 1 0 0\nline 1 \"b CREATE q\"\nline 1 \"c NOOP\"\ncheck\nopen 1\nstart\nstart\nstart\nopen 1\nline 1 \"d LOGIN u p\\r\\ne LIST \\\"\\\" q\"",
			[][]api.Sent{greeting, said("a OK LOGIN done"), nil, closed, nil, nil, nil, nil, nil, nil, greeting, said("d OK LOGIN done", "e OK LIST done")}},
		{"plan 1 0 0\ncheck\nopen 1", [][]api.Sent{nil, nil, nil}},
	} {
		sent, err := play.Play(head + c.script)
		if err != nil || len(sent) != len(c.want) {
			t.Errorf("P20.4: %q: %+v, %v", c.script, sent, err)
			continue
		}
		for i := range sent {
			if !slices.Equal(sent[i], c.want[i]) {
				t.Errorf("P20.4: %q, step %d: %+v, not %+v", c.script, i, sent[i], c.want[i])
			}
		}
		wantPlayed(t, head+c.script)
	}
}

// P20.4, P20.5: MaxSteps steps are done, each with what it sent.
func TestPlayManySteps(t *testing.T) {
	script := head + "open 1\n"
	for i := range api.MaxSteps - 1 {
		script += fmt.Sprintf("line 1 \"t%d NOOP\"\n", i)
	}
	sent, err := play.Play(script)
	if err != nil || len(sent) != api.MaxSteps {
		t.Fatalf("P20.4: %d, %v", len(sent), err)
	}
	for i, words := range sent[1:] {
		if want := []api.Sent{{Conn: 1, Text: fmt.Sprintf("t%d OK NOOP done\r\n", i)}}; !reflect.DeepEqual(words, want) {
			t.Errorf("P20.4: %d: %+v", i, words)
		}
	}
	wantRun(t, script)
}

// P20.4, P20.5: random scripts with refused steps and stops, held against a machine that is played step by step.
func TestRandomPlays(t *testing.T) {
	t.Parallel()
	r := rand.New(rand.NewPCG(20, 4))
	counts := map[string]int{}
	for range 150 {
		rules := someRealRules(r)
		steps := someMachineSteps(t, r, rules, 30+r.IntN(120))
		if r.IntN(4) == 0 {
			steps = append(steps, plan(stopAt(1, 0, 0)), check())
		}
		script := printed(t, rules, steps...)
		wantPlayed(t, script)
		wantRun(t, script)
		got := play.Run(script)
		for _, what := range []string{" refused 2\n", " refused 180\n", " refused 181\n", "\n  closed ", "\nstopped\n", "\nstore ", " EXISTS", `\x80\xff`, "work]"} {
			counts[what] += strings.Count(got, what)
		}
	}
	for what, n := range counts {
		if n < 10 {
			t.Errorf("%d of %q say too little", n, what)
		}
	}
}

// P20.4: a text that is too long for a step is refused by the machine, and the script goes on.
func TestPlayLongPiece(t *testing.T) {
	long := strings.Repeat("x", api.MaxPiece)
	script := head + "open 1\nbytes 1 \"" + long + "\"\nbytes 1 \"" + long + "y\"\nline 1 \"" + long[2:] + "\"\nline 1 \"" + long[1:] + "\"\ncut 1"
	wantPlayed(t, script)
	wantRun(t, script)
	if got := play.Run(script); strings.Count(got, " refused 2\n") != 2 || !strings.Contains(got, "\n5: cut 1\nstore 1\n") {
		t.Errorf("P20.5: %s", inShort(got))
	}
}

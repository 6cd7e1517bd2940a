package play_test

import (
	"fmt"
	"math/rand/v2"
	"reflect"
	"slices"
	"strings"
	"testing"

	"postbag/api"
	"postbag/play"
)

const (
	least = -1 << 63
	most  = 1<<63 - 1

	// head is the line of someRules.
	head = `rules user "u" pass "p" quota 100000 validity 1 uid 1 number 2 every 0 now 2026 2 1 10 0 0 0` + "\n"

	hello = "* OK [CAPABILITY IMAP4rev1 LITERAL+ UIDPLUS UNSELECT MOVE IDLE NAMESPACE ENABLE CONDSTORE SORT THREAD=ORDEREDSUBJECT THREAD=REFERENCES ESEARCH] postbag is ready"
)

func someRules() api.Rules {
	return api.Rules{User: "u", Pass: "p", Quota: 100000, Validity: 1, Uid: 1, Number: 2, Now: api.Moment{Year: 2026, Month: 2, Day: 1, Hour: 10}}
}

func open(conn int) api.Step { return api.Step{Kind: api.StepOpen, Conn: conn} }

func cut(conn int) api.Step { return api.Step{Kind: api.StepCut, Conn: conn} }

func bytes(conn int, text string) api.Step {
	return api.Step{Kind: api.StepBytes, Conn: conn, Bytes: text}
}

// lines come from a connection in one step, each with its end.
func lines(conn int, list ...string) api.Step {
	return bytes(conn, strings.Join(list, "\r\n")+"\r\n")
}

func plan(stops ...api.Stop) api.Step { return api.Step{Kind: api.StepPlan, Stops: stops} }

func stopAt(at, part, rest int) api.Stop { return api.Stop{At: at, Part: part, Rest: rest} }

func start() api.Step { return api.Step{Kind: api.StepStart} }

func check() api.Step { return api.Step{Kind: api.StepCheck} }

// parsed is what Parse answers.
type parsed struct {
	rules api.Rules
	steps []api.Step
	code  api.Errno
	line  int
}

func parse(script string) parsed {
	rules, steps, code, line := play.Parse(script)
	return parsed{rules, steps, code, line}
}

func refusal(code api.Errno, line int) parsed { return parsed{code: code, line: line} }

// alike: a nil list and an empty one are the same (W5).
func alike(a, b parsed) bool {
	return a.rules == b.rules && a.code == b.code && a.line == b.line && slices.EqualFunc(a.steps, b.steps, alikeSteps)
}

func alikeSteps(a, b api.Step) bool {
	return a.Kind == b.Kind && a.Conn == b.Conn && a.Bytes == b.Bytes && slices.Equal(a.Stops, b.Stops)
}

func wantParsed(t *testing.T, script string, want parsed) {
	t.Helper()
	if got := parse(script); !alike(got, want) {
		t.Errorf("P20.1: %s:\n %.300s\nnot\n %.300s", inShort(script), fmt.Sprintf("%+v", got), fmt.Sprintf("%+v", want))
	}
}

// wantSteps holds the steps that lines behind the head are.
func wantSteps(t *testing.T, lines string, want ...api.Step) {
	t.Helper()
	wantParsed(t, head+lines, parsed{rules: someRules(), steps: want})
}

// wantNone holds that a line behind the head offends.
func wantNone(t *testing.T, lines ...string) {
	t.Helper()
	for _, line := range lines {
		wantParsed(t, head+line, refusal(api.ErrScript, 2))
	}
}

// inShort is a text that may be long.
func inShort(text string) string {
	if len(text) > 600 {
		return fmt.Sprintf("%q .. %q (%d)", text[:300], text[len(text)-200:], len(text))
	}
	return fmt.Sprintf("%q", text)
}

// printed is what Print must take.
func printed(t *testing.T, rules api.Rules, steps ...api.Step) string {
	t.Helper()
	text, code := play.Print(rules, steps)
	if code != api.OK {
		t.Fatalf("P20.2: %.300s: %d", fmt.Sprintf("%+v", steps), code)
	}
	return text
}

func oneOf[E any](r *rand.Rand, list ...E) E { return list[r.IntN(len(list))] }

// someText is a text of any bytes, with those among them that are written in a way of their own.
func someText(r *rand.Rand) string {
	text := make([]byte, r.IntN(12))
	for i := range text {
		text[i] = oneOf(r, '"', '\\', '\r', '\n', '#', ' ', '\t', 'x', 'r', 'n', 'a', 0, 31, 32, 126, 127, 128, 255, byte(r.IntN(256)))
	}
	return string(text) + oneOf(r, "", "", "\r\n", "\r", "\n", "\n\r\n", "\r\n\r\n")
}

func someNumber(r *rand.Rand) int {
	return oneOf(r, 0, 1, -1, 4, 10, -10, api.MaxNumber, -api.MaxNumber, api.MaxNumber-1, r.IntN(100)-50, r.IntN(2*api.MaxNumber+1)-api.MaxNumber)
}

// anyRules and anyStep have a line, whether they mean something or not.
func anyRules(r *rand.Rand) api.Rules {
	n := func() int { return someNumber(r) }
	return api.Rules{User: someText(r), Pass: someText(r), Quota: n(), Validity: n(), Uid: n(), Number: n(), Every: n(), Now: api.Moment{Year: n(), Month: n(), Day: n(), Hour: n(), Minute: n(), Second: n(), Zone: n()}}
}

func anyStep(r *rand.Rand) api.Step {
	switch r.IntN(8) {
	case 0:
		return open(someNumber(r))
	case 1:
		return cut(someNumber(r))
	case 2:
		return start()
	case 3:
		return check()
	case 4:
		x := plan()
		for range r.IntN(9) {
			x.Stops = append(x.Stops, stopAt(someNumber(r), someNumber(r), someNumber(r)))
		}
		return x
	}
	return bytes(someNumber(r), someText(r))
}

func anySteps(r *rand.Rand, count int) []api.Step {
	var out []api.Step
	for range count {
		out = append(out, anyStep(r))
	}
	return out
}

// withRoom is a list with spare room, and something in it.
func withRoom[E any](list []E, spare E) []E {
	long := append(slices.Clone(list), spare, spare, spare)
	return long[:len(list)]
}

// eachList goes through all lists that a value leads to, with their spare room.
func eachList(v reflect.Value, do func(list reflect.Value)) {
	switch v.Kind() {
	case reflect.Struct:
		for i := range v.NumField() {
			eachList(v.Field(i), do)
		}
	case reflect.Slice:
		whole := v.Slice(0, v.Cap())
		for i := range whole.Len() {
			eachList(whole.Index(i), do)
		}
		do(whole)
	}
}

// whole is all of a value, the spare room of its lists too.
func whole(v any) string {
	out := fmt.Sprintf("%+v", v)
	eachList(reflect.ValueOf(v), func(list reflect.Value) { out += fmt.Sprintf(" %+v", list.Interface()) })
	return out
}

// spoil writes upon all lists of a value, their spare room too.
func spoil(v any) {
	eachList(reflect.ValueOf(v), func(list reflect.Value) {
		for i := range list.Len() {
			list.Index(i).SetZero()
		}
	})
}

package play_test

import (
	"errors"
	"fmt"
	"math/rand/v2"
	"reflect"
	"runtime"
	"slices"
	"strings"
	"sync"
	"testing"
	"testing/synctest"
	"time"

	"postbag/api"
	"postbag/play"
)

// all is what the four calls answer of one script, in words.
func all(script string) string {
	p := parse(script)
	text, code := play.Print(p.rules, p.steps)
	sent, err := play.Play(script)
	why := fmt.Sprint(err)
	if f := (*api.Fail)(nil); errors.As(err, &f) {
		why = fmt.Sprintf("%+v", *f)
	}
	return fmt.Sprintf("%+v %d %q %+v %s %q", p, code, text, sent, why, play.Run(script))
}

// allScripts are scripts of all kinds.
func allScripts(t *testing.T, seed uint64) []string {
	t.Helper()
	r := rand.New(rand.NewPCG(20, seed))
	out := []string{"", "x", head, head + "open", printed(t, api.Rules{})}
	for script := range brokenScripts() {
		out = append(out, script)
	}
	slices.Sort(out)
	for range 12 {
		rules := someRealRules(r)
		out = append(out, printed(t, rules, someMachineSteps(t, r, rules, 60)...), someScript(r))
	}
	return out
}

// P20.6: what is handed in to Print is neither changed nor kept, not even the spare room behind a list's end.
func TestPrintKeepsNothing(t *testing.T) {
	r := rand.New(rand.NewPCG(20, 6))
	for range 300 {
		rules := anyRules(r)
		steps := withRoom(anySteps(r, r.IntN(8)), open(7))
		for i := range steps {
			steps[i].Stops = withRoom(steps[i].Stops, stopAt(7, 7, 7))
		}
		was := whole(steps)
		text := printed(t, rules, steps...)
		if whole(steps) != was {
			t.Fatalf("P20.6: %s\nbehind Print of\n%s", whole(steps), was)
		}
		want := strings.Clone(text)
		spoil(steps)
		if text != want || text == "" {
			t.Fatalf("P20.6: %q is %q, once the steps are written over", want, text)
		}
	}
}

// P20.6: what Parse answers is new memory: whoever writes upon it, its spare room too, changes no other list and no later answer.
func TestParsedIsNew(t *testing.T) {
	for _, script := range append(allScripts(t, 60), head+strings.Repeat("plan 1 2 3 4 5 6\nplan\n", 20)) {
		one, two := parse(script), parse(script)
		want := fmt.Sprintf("%+v", one)
		wantApart(t, script, one.steps, two.steps)
		spoil(one.steps)
		if got := fmt.Sprintf("%+v", two); got != want {
			t.Errorf("P20.6: %s: %.300s, not %.300s", inShort(script), got, want)
		}
		if got := fmt.Sprintf("%+v", parse(script)); got != want {
			t.Errorf("P20.6: %s: later %.300s, not %.300s", inShort(script), got, want)
		}
	}
}

// P20.6: so is what Play answers.
func TestPlayedIsNew(t *testing.T) {
	for _, script := range allScripts(t, 61) {
		one, err := play.Play(script)
		two, again := play.Play(script)
		want := fmt.Sprintf("%+v", one)
		wantApart(t, script, one, two)
		if f, is := err.(*api.Fail); is {
			was := *f
			*f = api.Fail{Op: "spoilt"}
			g, is := again.(*api.Fail)
			if !is || *g != was {
				t.Errorf("P20.6: %s: two errors are one", inShort(script))
			}
			_, third := play.Play(script)
			if h, is := third.(*api.Fail); !is || *h != was {
				t.Errorf("P20.6: %s: later %v", inShort(script), third)
			}
		}
		spoil(one)
		if got := fmt.Sprintf("%+v", two); got != want {
			t.Errorf("P20.6: %s: %.300s, not %.300s", inShort(script), got, want)
		}
		third, _ := play.Play(script)
		if got := fmt.Sprintf("%+v", third); got != want {
			t.Errorf("P20.6: %s: later %.300s, not %.300s", inShort(script), got, want)
		}
	}
}

// wantApart holds that no two lists share memory, spare room too.
func wantApart(t *testing.T, what string, values ...any) {
	t.Helper()
	type room struct{ from, to uintptr }
	var rooms []room
	for _, v := range values {
		eachList(reflect.ValueOf(v), func(list reflect.Value) {
			if size := uintptr(list.Cap()) * list.Type().Elem().Size(); size > 0 {
				rooms = append(rooms, room{list.Pointer(), list.Pointer() + size})
			}
		})
	}
	slices.SortFunc(rooms, func(a, b room) int { return int(a.from) - int(b.from) })
	for i := 1; i < len(rooms); i++ {
		if rooms[i].from < rooms[i-1].to {
			t.Errorf("P20.6: %s: two lists share memory", inShort(what))
		}
	}
}

// P20.6: a script whose bytes are written over behind a call is not looked at again, nor are its bytes within what was answered.
func TestScriptIsNotKept(t *testing.T) {
	for _, script := range allScripts(t, 62) {
		want := all(script)
		bytes := []byte(script)
		p := parse(string(bytes))
		sent, _ := play.Play(string(bytes))
		was := fmt.Sprintf("%+v %+v", p, sent)
		clear(bytes)
		if fmt.Sprintf("%+v %+v", p, sent) != was || all(script) != want {
			t.Errorf("P20.6: %s", inShort(script))
		}
	}
}

// P20.6: nothing is kept from call to call: one behind the other, in another order, and all at the same time.
func TestCallsApart(t *testing.T) {
	t.Parallel()
	scripts := allScripts(t, 63)
	var want []string
	for _, script := range scripts {
		want = append(want, all(script))
	}
	hold := func(i int) {
		if got := all(scripts[i]); got != want[i] {
			t.Errorf("P20.6: %s:\n%.500s\nnot\n%.500s", inShort(scripts[i]), got, want[i])
		}
	}
	for i := range scripts {
		hold(len(scripts) - 1 - i)
		hold(i)
	}
	var busy sync.WaitGroup
	for i := range scripts {
		for range 3 {
			busy.Go(func() { hold(i) })
		}
	}
	busy.Wait()
}

// W2, rules 5 and 6: two runs are alike, on one processor as on many.
func TestAlike(t *testing.T) {
	for _, script := range allScripts(t, 64) {
		want := all(script)
		was := runtime.GOMAXPROCS(1)
		one := all(script)
		runtime.GOMAXPROCS(was)
		for _, got := range []string{one, all(script), all(script)} {
			if got != want {
				t.Errorf("W2: %s:\n%.500s\nnot\n%.500s", inShort(script), got, want)
			}
		}
	}
}

// Ways, rule 6: every goroutine has ended when a call answers, whatever the script.
func TestGoroutinesEnd(t *testing.T) {
	scripts := allScripts(t, 65)
	before := runtime.NumGoroutine()
	for _, script := range scripts {
		all(script)
		for since := time.Now(); runtime.NumGoroutine() > before; time.Sleep(time.Microsecond) { // one that has told that it ends may still be counted
			if time.Since(since) > 20*time.Second {
				t.Fatalf("%s: %d goroutines, not %d", inShort(script), runtime.NumGoroutine(), before)
			}
		}
	}
}

// Ways: the same within a bubble, which fails if a goroutine that was begun in it never ends.
func TestBubble(t *testing.T) {
	for _, script := range allScripts(t, 66) {
		synctest.Test(t, func(t *testing.T) { all(script) })
	}
}

// W3: beside an error every other result is its zero value.
func TestZeroBesideErrors(t *testing.T) {
	for script := range brokenScripts() {
		rules, steps, code, _ := play.Parse(script)
		sent, err := play.Play(script)
		if rules != (api.Rules{}) || steps != nil || code == api.OK || sent != nil || err == nil {
			t.Errorf("W3: %s: %+v, %+v, %d, %+v, %v", inShort(script), rules, steps, code, sent, err)
		}
	}
	if text, code := play.Print(someRules(), []api.Step{start(), {}}); text != "" || code != api.ErrScript {
		t.Errorf("W3: %q, %d", text, code)
	}
}

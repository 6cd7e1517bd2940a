package server_test

import (
	"fmt"
	"math/rand/v2"
	"reflect"
	"runtime"
	"slices"
	"strings"
	"sync"
	"testing"
	"testing/synctest"
	"time"

	"postbag/api"
	"postbag/lex"
	"postbag/search"
)

// P18.14: what one is sent does not hang on what others do without committing, selecting, leaving or claiming anything.
func TestIndependence(t *testing.T) {
	t.Parallel()
	r := rand.New(rand.NewPCG(18, 14))
	for range 60 {
		rules := someRules()
		rules.Quota, rules.Every = oneOf(r, api.MaxDisk, 30000, 12000), oneOf(r, 0, 4)
		isOfBoth := func(x api.Step) bool { return x.Conn <= 2 }
		script := slices.DeleteFunc(scripted(t, r, rules, 150, false), func(x api.Step) bool { return !isOfBoth(x) })
		script = append([]api.Step{open(4), lines(4, "a LOGIN u p", "b EXAMINE inbox")}, script...)
		words := func(script []api.Step) []string {
			m := build(t, rules)
			var out []string
			for _, x := range script {
				last := m.Store().Last()
				sent, code := m.Do(x)
				if !isOfBoth(x) && m.Store().Last() != last {
					t.Fatalf("%+v is not quiet: %q", x, shown(sent))
				}
				if isOfBoth(x) && code != api.OK && code != api.ErrConn {
					t.Fatalf("%+v: %d", x, code)
				}
				for _, w := range sent {
					if w.Conn <= 2 {
						out = append(out, shown([]api.Sent{w})...)
					}
				}
			}
			return out
		}
		if with, without := words(noisy(r, script)), words(script); !slices.Equal(with, without) {
			at := 0
			for at < min(len(with), len(without)) && with[at] == without[at] {
				at++
			}
			t.Fatalf("P18.14: word %d: %q, not %q", at, with[at:min(at+3, len(with))], without[at:min(at+3, len(without))])
		}
	}
}

// noisy is a script with steps between its own ones in which the connections 3 and 4 talk of what concerns nobody else: 4 has INBOX examined, 3 nothing.
func noisy(r *rand.Rand, script []api.Step) []api.Step {
	out := slices.Clone(script[:2])
	isOpen := false
	left := map[int]string{}
	for _, x := range script[2:] {
		for range r.IntN(4) {
			conn := oneOf(r, 3, 4, 4)
			switch {
			case conn == 3 && !isOpen:
				isOpen, left[3] = true, "l LOGIN u p\r\n"
				out = append(out, open(3))
			case conn == 3 && r.IntN(9) == 0:
				isOpen = false
				out = append(out, oneOf(r, cut(3), bytes(3, left[3]+"DONE\r\nz LOGOUT\r\n"), bytes(3, left[3]+"DONE\r\nz NOOP {9999999999+}\r\n"), cut(3)), cut(3))
			default:
				if left[conn] == "" {
					left[conn] = oneOf(r, "", "", "DONE\r\n") + "t " + oneOf(r, someQuiet(r), "IDLE", "APPEND never "+literal("x"), `STORE 1 FLAGS (\Seen)`, "EXPUNGE", "MOVE 1 a", "SUBSCRIBE never", "FETCH 1 BODY[]") + "\r\n"
				}
				n := oneOf(r, len(left[conn]), len(left[conn]), r.IntN(len(left[conn])+1))
				out = append(out, bytes(conn, left[conn][:n]))
				left[conn] = left[conn][n:]
			}
		}
		out = append(out, x)
	}
	return out
}

// P0.10: each command has one tagged answer with its tag, in the order in which they came, in whatever pieces; no message and no name can make one.
func TestEcho(t *testing.T) {
	r := rand.New(rand.NewPCG(18, 10))
	for range 40 {
		m := entered(t, 3, someRules())
		var want [4][]string
		var texts [4]string
		for conn := 1; conn <= 3; conn++ {
			for i := range 60 {
				tag := fmt.Sprintf("%c%d", 'a'+conn, i)
				line := oneOf(r, someLine(r), someLine(r), "SELECT inbox", "NOOP", "APPEND inbox "+literal(fmt.Sprintf("x\r\n%s OK done\r\nb1 NOOP\r\n", tag)), "CREATE "+literal(tag+" OK x"))
				if line == "LOGOUT" {
					continue
				}
				texts[conn] += tag + " " + line + "\r\n"
				if line == "IDLE" {
					texts[conn] += oneOf(r, "DONE\r\n", "x NOOP\r\n", "\r\n")
				}
				want[conn] = append(want[conn], tag)
			}
		}
		var got [4][]string
		for texts != [4]string{} {
			conn := 1 + r.IntN(3)
			n := min(len(texts[conn]), r.IntN(200))
			sent := m.do(bytes(conn, texts[conn][:n]))
			texts[conn] = texts[conn][n:]
			for _, w := range sent {
				for _, a := range readAll(t, w.Text) {
					if a.Kind == api.AnswerState && a.Tag != "" {
						got[w.Conn] = append(got[w.Conn], a.Tag)
					}
				}
			}
		}
		if !reflect.DeepEqual(got, want) {
			t.Fatalf("P0.10: %q\nnot %q", got, want)
		}
	}
}

// P0.6 and P0.7, as a client sees them.
func TestFindingAndChanges(t *testing.T) {
	r := rand.New(rand.NewPCG(18, 6))
	numbers := func(a api.Answer) []int {
		out := slices.Clone(a.Nums)
		var walk func(twigs []api.Twig)
		walk = func(twigs []api.Twig) {
			for _, twig := range twigs {
				if twig.Uid != 0 {
					out = append(out, twig.Uid)
				}
				walk(twig.Kids)
			}
		}
		walk(a.Twigs)
		slices.Sort(out)
		return out
	}
	for range 20 {
		m := entered(t, 2, someRules())
		for range 1 + r.IntN(9) {
			m.done(2, "a APPEND inbox "+someFlags(r)+" "+literal(someBody(r)))
		}
		m.done(1, "a SELECT inbox (CONDSTORE)")
		m.done(2, "b SELECT inbox")
		flags := map[int]string{}
		learn := func(line string) {
			for _, a := range m.answers(lines(1, line)) {
				if a.Kind != api.AnswerFetch {
					continue
				}
				var list []string
				for _, v := range a.Data[1].Value.Kids {
					if v.Text != `\Recent` {
						list = append(list, v.Text)
					}
				}
				flags[a.Data[0].Value.Num] = strings.Join(list, " ")
			}
		}
		learn("c UID FETCH 1:* (FLAGS)")
		since := m.Store().Last()
		for range r.IntN(6) {
			m.do(lines(2, "x "+oneOf(r, "UID STORE "+someSet(r)+" FLAGS "+someFlags(r), "EXPUNGE", "APPEND inbox "+literal("x"))))
		}
		mails, _ := m.Store().Mails(1)
		for _, words := range []string{"ALL", "DELETED", "UNSEEN", "SUBJECT a", "NOT TEXT body", "OR SEEN LARGER 90", "MODSEQ 4"} {
			scanned, _ := lex.Scan(words, nil)
			key, _ := search.Read(scanned, 0)
			for _, line := range []string{"SEARCH " + words, "SORT (SUBJECT) utf-8 " + words, "THREAD REFERENCES utf-8 " + words, "THREAD ORDEREDSUBJECT utf-8 " + words} {
				view := m.Sessions()[0].Uids
				var want []int
				for _, mail := range mails {
					mail.Seq = slices.Index(view, mail.Uid) + 1
					if mail.Seq > 0 && search.Holds(key, mail, api.Last{}) {
						want = append(want, mail.Seq)
					}
				}
				if got := numbers(m.answers(lines(1, "d "+line))[0]); !slices.Equal(got, want) {
					t.Errorf("P0.6: %s: %v, not %v", line, got, want)
				}
			}
		}
		view := m.Sessions()[0].Uids
		learn(fmt.Sprintf("e UID FETCH 1:* (FLAGS) (CHANGEDSINCE %d)", since))
		for _, mail := range mails {
			if got, is := flags[mail.Uid]; slices.Contains(view, mail.Uid) && (!is || got != strings.Join(mail.Flags, " ")) {
				t.Errorf("P0.7: %d has %q, not %q", mail.Uid, mail.Flags, got)
			}
		}
	}
}

// Ways, rule 6: every goroutine of a Do has ended when it answers.
func TestGoroutinesEnd(t *testing.T) {
	r := rand.New(rand.NewPCG(18, 100))
	rules := someRules()
	script := scripted(t, r, rules, 120, true)
	m := build(t, rules)
	before := runtime.NumGoroutine()
	for _, x := range script {
		m.do(x)
		m.Do(api.Step{Kind: api.StepBytes, Conn: 9})
		for since := time.Now(); runtime.NumGoroutine() > before; time.Sleep(time.Microsecond) { // one that has told that it ends may still be counted
			if time.Since(since) > 20*time.Second {
				t.Fatalf("%+v: %d goroutines, not %d", x, runtime.NumGoroutine(), before)
			}
		}
	}
}

// Ways: the same within a bubble, which fails if a goroutine that was begun in it never ends.
func TestBubble(t *testing.T) {
	r := rand.New(rand.NewPCG(18, 101))
	rules := someRules()
	script := scripted(t, r, rules, 120, true)
	synctest.Test(t, func(t *testing.T) { sentBy(t, rules, script) })
}

// W2, rules 5 and 6: two runs of one script are sent the same, however goroutines run.
func TestTwoRuns(t *testing.T) {
	r := rand.New(rand.NewPCG(18, 102))
	for range 10 {
		rules := someRandomRules(r)
		script := scripted(t, r, rules, 100, true)
		sent, look := sentBy(t, rules, script)
		again := func(what string) {
			if got, behind := sentBy(t, rules, script); !slices.Equal(got, sent) || !reflect.DeepEqual(behind, look) {
				t.Errorf("W2: %s: %q, not %q", what, shown(got), shown(sent))
			}
		}
		again("again")
		was := runtime.GOMAXPROCS(1)
		again("on one processor")
		runtime.GOMAXPROCS(was)
		var all sync.WaitGroup
		for range 8 {
			all.Go(func() { again("among others") })
		}
		all.Wait()
	}
}

// W1: every call ends, and none panics, whatever the steps.
func TestAnySteps(t *testing.T) {
	r := rand.New(rand.NewPCG(18, 1))
	for range 100 {
		m := build(t, someRandomRules(r))
		for range 60 {
			text := make([]byte, r.IntN(80))
			for i := range text {
				text[i] = oneOf(r, '\r', '\n', ' ', '{', '}', '1', '9', '+', 'a', '*', '(', ')', '"', 0, 255, byte(r.IntN(256)))
			}
			x := api.Step{Kind: r.IntN(9) - 1, Conn: r.IntN(7) - 1, Bytes: string(text), Stops: someStops(r)}
			sent, code := m.Do(x)
			if code != api.OK && len(sent) > 0 {
				t.Errorf("W3: %+v: %q", x, shown(sent))
			}
			m.look()
		}
	}
}
